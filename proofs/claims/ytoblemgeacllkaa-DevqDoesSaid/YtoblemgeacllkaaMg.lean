/-
  The document's parts and chains of a ring, and its Next.
-/
import Derived.Test.YtoblemgeacllkaaDr3
import Derived.Test.YtoblemgeacllkaaDl7
namespace Go.Proofs.Ytoblemgeacllkaa
open Go.RowKit

structure PL (gx gk : Nat) (q : Qs) (xs : List UInt8) (w : World) (A : Option Addr) (cap : Nat) (l : List De) (s : Value) (acc : List Pt) (W : World) : Prop where
  rq : Rq gx gk q xs w
  b : Below w.heap.size w W
  row : W.ownsRow 0 35 4 (.slice A l.length cap) l.length (desCells l)
  own : W.ownsRow w.heap.size 56 3 s acc.length (ptCells acc)
section
variable {gx gk : Nat} {q : Qs} {xs : List UInt8} {w W W' : World} {A : Option Addr} {cap : Nat} {l : List De} {s s' : Value} {acc : List Pt}
theorem PL.next (h : PL gx gk q xs w A cap l s acc W) (hq : Below W.heap.size W W') : PL gx gk q xs w A cap l s acc W' :=
  ⟨h.rq, b0 h.b hq, own_same h.row (fun k hk => hq.block k (h.row.lt k hk).2), own_same h.own (fun k hk => hq.block k (h.own.lt k hk).2)⟩
theorem PL.r (h : PL gx gk q xs w A cap l s acc W) : Rq gx gk q xs W := h.rq.below h.b
theorem own_types {B B' e e' size size' n n' : Nat} {v v' : Value} {ys ys' : List Value} (h : W.ownsRow B e size v n ys) (h' : W.ownsRow B' e' size' v' n' ys') (hne : e ≠ e') (k : Nat) (hk : v.ownBlock = some k) : v'.ownBlock ≠ some k := by
  rcases h.2 with ⟨rfl, _⟩ | ⟨g, c, cur, rfl, _, hh, _⟩
  · simp [Value.ownBlock] at hk
  · have : g = k := by simpa [Value.ownBlock] using hk
    subst this
    exact own_ne (cs := cur) h' hh (fun x => hne x.symm)
theorem PL.grown {p : Pt} (h : PL gx gk q xs w A cap l s acc W) (hown : W'.ownsRow w.heap.size 56 3 s' (acc.length + 1) (ptCells acc ++ Pt.cells p)) (hg : W.grownBy W' s.ownBlock) : PL gx gk q xs w A cap l s' (acc ++ [p]) W' := by
  refine ⟨h.rq, h.b.grown hg h.b.size (fun k hk => (h.own.lt k hk).1), own_same h.row (fun k hk => hg.block k (h.row.lt k hk).2 (fun e => own_types h.row h.own (by decide) k hk e.symm)), ?_⟩
  rw [ptCells_append, List.length_append]
  have e : ptCells [p] = Pt.cells p := by simp [ptCells]
  rw [e]
  exact hown
end
/-- a round's descriptor in a variable, cell by cell -/
def DF (d : De) (D : Nat) (w' : World) : Prop := (w'.cell? ⟨D, 0, none⟩ = some (.int .u64 (d.a : Int)) ∧ w'.cell? ⟨D, 1, none⟩ = some (.int .u32 (d.n : Int)) ∧ w'.cell? ⟨D, 2, none⟩ = some (.int .i64 (d.id : Int)) ∧ w'.cell? ⟨D, 3, none⟩ = some (.int .i64 (d.f : Int))) ∧ Blk w' D 35 #[.int .u64 (d.a : Int), .int .u32 (d.n : Int), .int .i64 (d.id : Int), .int .i64 (d.f : Int)]
theorem DF.of {d : De} {D : Nat} {w : World} (h : Blk w D 35 #[.int .u64 (d.a : Int), .int .u32 (d.n : Int), .int .i64 (d.id : Int), .int .i64 (d.f : Int)]) : DF d D w := ⟨⟨h.cell 0, h.cell 1, h.cell 2, h.cell 3⟩, h⟩
theorem DF.next {d : De} {D : Nat} {w w' : World} (h : DF d D w) (hq : Below w.heap.size w w') : DF d D w' := DF.of (h.2.same (hq.block _ h.2.lt))
theorem DF.alloc {d : De} {D : Nat} {w : World} (h : DF d D w) (o : Obj) : DF d D (w.alloc o) := DF.of (h.2.alloc o)
theorem DF.grown {d : De} {D B size n : Nat} {v : Value} {ys : List Value} {w w' : World} (h : DF d D w) (hown : w.ownsRow B 56 size v n ys) (hg : w.grownBy w' v.ownBlock) : DF d D w' := DF.of (h.2.grown hown hg (by decide))
theorem map_step (o : Option (List Pt)) (acc : List Pt) (p : Pt) : (o.map (p :: ·)).map (acc ++ ·) = o.map ((acc ++ [p]) ++ ·) := by cases o <;> simp
/-- was the one ahead to be written? -/
def wrB (l : List De) : Nat → Bool
  | 0 => false
  | k + 1 => match l[k]? with | some d => d.bit 2 | none => false
/-- what parts answers -/
def PtsP (w : World) (V : Option (List Pt)) (e : Ending) (w' : World) : Prop :=
  Below w.heap.size w w' ∧ match V with
  | some p => ∃ (A : Option Addr) (cap : Nat), e = .returned (.tuple #[.slice A p.length cap, .bool true]) ∧ w'.ownsRow w.heap.size 56 3 (.slice A p.length cap) p.length (ptCells p)
  | none => e = .returned (.tuple #[.slice none 0 0, .bool false])
set_option maxRecDepth 100000 in
set_option maxHeartbeats 6400000 in
theorem rparts_any {gx gk : Nat} {q : Qs} {xs : List UInt8} {w : World} (h : Rq gx gk q xs w) (l : List De) (hl : ∀ d ∈ l, d.Ok ∧ d.bit 4 = false) (hlen : l.length ≤ 64) (A : Option Addr) (cap : Nat) (hrow : w.ownsRow 0 35 4 (.slice A l.length cap) l.length (desCells l)) :
    Calls Try.prog 70 #[.pointer (some ⟨gx, 0, none⟩), .slice A l.length cap] w (PtsP w (partsGo xs l false)) := by
  obtain ⟨i0, hi, hz0, hz1, hz2⟩ := info_parts Try.info56
  have HI := Lib.hid hi
  have HZ0 := Lib.hid hz0
  have HZ1 := Lib.hid hz1
  have HZ2 := Lib.hid hz2
  have HL := Lib.hid hl
  obtain ⟨V, hV⟩ : ∃ V, partsGo xs l false = V := ⟨_, rfl⟩
  rw [hV]
  have HV : Hid ((partsGo xs (l.drop 0) (wrB l 0)).map (([] : List Pt) ++ ·) = V) := by
    show _ = _
    rw [List.drop_zero, ← hV]
    simp [wrB]
  have P0 : Hid (PL gx gk q xs w A cap l (.slice (some ⟨w.heap.size, 0, none⟩) 0 0) [] (w.alloc (.cells #[] 56))) :=
    ⟨h, ba (Below.refl _ _) _, hrow.alloc _, empty_row w w.heap.size 56 3 (Nat.le_refl _)⟩
  obtain ⟨n, hn⟩ : ∃ n, l.length = n := ⟨_, rfl⟩
  have HN := Lib.hid hn
  rw [hn] at hlen ⊢
  clear hi hz0 hz1 hz2 hl hV hn h hrow
  go_enter Try.func70, Try.ntmps70
  go_wp2_with fail
  go_loopw [6, 7] (fun s i wr => ∃ (acc : List Pt) (k : Nat), k ≤ n ∧ i = .int .i64 (k : Int) ∧ acc.length = k ∧ PL gx gk q xs w A cap l s acc wr ∧ (partsGo xs (l.drop k) (wrB l k)).map (acc ++ ·) = V) (fun _ i _ => n - (intOf i).toNat)
  case atStart => exact ⟨[], 0, Nat.zero_le _, rfl, rfl, P0.out, HV.out⟩
  case round =>
    obtain ⟨acc, k, hk, rfl, hacc, R, hgo⟩ := hrel
    obtain ⟨A2, cap2, rfl⟩ := own_form R.own
    by_cases hkn : k < n
    · obtain ⟨gr, cap', he, _, hltg⟩ := R.row.form (by rw [HN.out]; omega)
      injection he with h1 h2 h3
      subst h1 h3
      have hkl : k < l.length := by rw [HN.out]; exact hkn
      obtain ⟨d, hd⟩ : ∃ d, l[k] = d := ⟨_, rfl⟩
      have hdrop : l.drop k = d :: l.drop (k + 1) := by rw [← hd]; exact List.drop_eq_getElem_cons hkl
      have hok := HL.out d (by rw [← hd]; exact List.getElem_mem hkl)
      have hwr : wrB l (k + 1) = d.bit 2 := by show (match l[k]? with | some d => d.bit 2 | none => false) = _; rw [List.getElem?_eq_getElem hkl, hd]
      have hcl := desCells_at l k hkl
      rw [hd] at hcl
      have hrw := R.row.cells (g := gr) rfl
      have r0 := hrw _ _ hcl.1
      have r1 := hrw _ _ hcl.2.1
      have r2 := hrw _ _ hcl.2.2.1
      have r3 := hrw _ _ hcl.2.2.2
      rw [addr_zero] at r0 r1 r2 r3
      rw [hdrop] at hgo
      obtain ⟨hok, hb4⟩ := hok
      have hdn := hok.n
      have hda := hok.a
      have hx := R.rq.len
      have hkb : (k : Int) < (n : Int) := by omega
      have R1 := R.next (ba (Below.refl wr.heap.size wr) (.cells #[.int .u64 (d.a : Int), .int .u32 (d.n : Int), .int .i64 (d.id : Int), .int .i64 (d.f : Int)] 35))
      have kD := Blk.new wr 35 #[.int .u64 (d.a : Int), .int .u32 (d.n : Int), .int .i64 (d.id : Int), .int .i64 (d.f : Int)]
      obtain ⟨W1, hW1⟩ : ∃ W1, wr.alloc (.cells #[.int .u64 (d.a : Int), .int .u32 (d.n : Int), .int .i64 (d.id : Int), .int .i64 (d.f : Int)] 35) = W1 := ⟨_, rfl⟩
      obtain ⟨D, hD⟩ : ∃ D, wr.heap.size = D := ⟨_, rfl⟩
      have hDw : w.heap.size ≤ D := by rw [← hD]; exact R.b.size
      rw [hW1] at R1 kD
      rw [hD] at kD
      have HW1 := Lib.hid hW1
      have hrq := R1.r
      have p0 : W1.cell? ⟨gx, 0, none⟩ = some (.pointer (some ⟨gk, 0, none⟩)) := hrq.blk.cell 0
      have m0 := hrq.c0
      have lt1 := hrq.lt
      have lt2 := hrq.ltk
      have lt3 := kD.lt
      have d0 := kD.cell 0
      have d1 := kD.cell 1
      have d2 := kD.cell 2
      have d3 := kD.cell 3
      simp only [List.getElem?_toArray, List.getElem?_cons_zero, List.getElem?_cons_succ] at d0 d1 d2 d3
      have hs : (⟨xs.toArray⟩ : ByteArray).size = xs.length := by show xs.toArray.size = _; simp
      obtain ⟨S0, hS0⟩ : ∃ S0 : ByteArray, ⟨xs.toArray⟩ = S0 := ⟨_, rfl⟩
      rw [hS0] at hs m0
      have v1 : IntKind.i64.wrap (d.n : Int) = (d.n : Int) := by rw [IntKind.wrap_i64]; omega
      have v2 : IntKind.u64.wrap (S0.size : Int) = (S0.size : Int) := IntWalk.u64_in _ (by omega)
      have HM := Lib.hid (fun (j : Nat) => (hrq.below (below_drewN (Below.refl W1.heap.size W1) j)).may (d.a : Int) (d.n : Int))
      have Hgo := Lib.hid hgo
      have RR := Lib.hid R1
      have KD := Lib.hid kD
      have Hacc := Lib.hid hacc
      clear hcl hrw R R1 kD hrq hW1 hS0 hgo hacc hd hdrop
      by_cases c1 : d.n = 0
      · obtain rfl : none = V := by
          have hfit : d.fit xs = false := by unfold De.fit; exact decide_eq_false (by omega)
          rw [← Hgo.out]
          unfold partsGo
          rw [hfit]
          simp
        have q1 : (((d.n : Nat) : Int) == 0) = true := by simp; omega
        clear c1 hdn hda hok hwr hb4 hk
        go_wp2_with (rw [HW1.out])
        skip
        try rw [hD]
        go_wp2_with fail
        go_quiet ((go_at_call 40; exact Calls.quiet_of_same ((HM.out _).mono fun _ _ hh => hh)))
        go_wp2_with fail
        go_ret2
        exact ⟨below_drewN RR.out.b _, rfl⟩

      · by_cases c2 : xs.length < d.n
        · obtain rfl : none = V := by
            have hfit : d.fit xs = false := by unfold De.fit; exact decide_eq_false (by omega)
            rw [← Hgo.out]
            unfold partsGo
            rw [hfit]
            simp
          have q1 : (((d.n : Nat) : Int) == 0) = false := by simp; omega
          have q2 : (S0.size : Int) < (d.n : Int) := by omega
          clear hdn hda hok hwr hb4 hk
          go_wp2_with (rw [HW1.out])
          skip
          try rw [hD]
          go_wp2_with fail
          go_quiet ((go_at_call 40; exact Calls.quiet_of_same ((HM.out _).mono fun _ _ hh => hh)))
          go_wp2_with fail
          go_ret2
          exact ⟨below_drewN RR.out.b _, rfl⟩

        · by_cases c3 : xs.length < d.a
          · obtain rfl : none = V := by
              have hfit : d.fit xs = false := by unfold De.fit; exact decide_eq_false (by omega)
              rw [← Hgo.out]
              unfold partsGo
              rw [hfit]
              simp
            have q1 : (((d.n : Nat) : Int) == 0) = false := by simp; omega
            have q2 : decide ((S0.size : Int) < (d.n : Int)) = false := decide_eq_false (by omega)
            have q3 : (S0.size : Int) < (d.a : Int) := by omega
            clear hdn hda hok hwr hb4 hk
            go_wp2_with (rw [HW1.out])
            skip
            try rw [hD]
            go_wp2_with fail
            go_quiet ((go_at_call 40; exact Calls.quiet_of_same ((HM.out _).mono fun _ _ hh => hh)))
            go_wp2_with fail
            go_ret2
            exact ⟨below_drewN RR.out.b _, rfl⟩

          · by_cases c4 : d.a + d.n ≤ xs.length
            · have q1 : (((d.n : Nat) : Int) == 0) = false := by simp; omega
              have q2 : decide ((S0.size : Int) < (d.n : Int)) = false := decide_eq_false (by omega)
              have q3 : decide ((S0.size : Int) < (d.a : Int)) = false := decide_eq_false (by omega)
              have v3 : IntKind.i64.wrap (d.a : Int) = (d.a : Int) := by rw [IntKind.wrap_i64]; omega
              have hmb : mayB xs (d.a : Int) (d.n : Int) = true := by unfold mayB; exact decide_eq_true (by omega)
              rw [hmb] at HM
              clear hmb
              have hfit : d.fit xs = true := by unfold De.fit; exact decide_eq_true (by omega)
              obtain ⟨b2, hb2⟩ : ∃ b2, d.bit 2 = b2 := ⟨_, rfl⟩
              have HBd := fun W => rbit_any d hok 2 (.inl rfl) b2 hb2 W
              unfold De.v at HBd
              have HBd := Lib.hid HBd
              have gN : partsGo xs (d :: l.drop (k + 1)) (wrB l k) = if (b2 || !wrB l k) = true then (partsGo xs (l.drop (k + 1)) b2).map (⟨d.a, d.n, b2⟩ :: ·) else none := by
                rw [← hb2]
                show (if (!d.bit 4 && d.fit xs && (d.bit 2 || !wrB l k)) = true then _ else _) = _
                rw [hb4, hfit]
                rfl
              rw [hb2] at hwr
              have Hwr := Lib.hid hwr
              have HG := Lib.hid gN
              clear hwr gN hb4 hok hdn hfit hb2
              cases k with
              | zero =>
                have z1 : ¬ (0 : Int) < ((0 : Nat) : Int) := by omega
                have gV : ((partsGo xs (l.drop 1) b2).map (⟨d.a, d.n, b2⟩ :: ·)).map (acc ++ ·) = V := by
                  rw [← Hgo.out, HG.out, if_pos (by simp [wrB])]
                have HGV := Lib.hid gV
                clear gV
                go_wp2_with (rw [HW1.out])
                try rw [hD]
                go_wp2_with fail
                go_quiet ((go_at_call 40; exact Calls.quiet_of_same ((HM.out _).mono fun _ _ hh => hh)))
                have RW := RR.out.next (below_drewN (Below.refl W1.heap.size W1) nq)
                have KW := (KD.out.same (w' := W1.drewN nq) rfl)
                obtain ⟨W2, hW2⟩ : ∃ W2, W1.drewN nq = W2 := ⟨_, rfl⟩
                rw [hW2] at RW KW ⊢
                clear hW2 RR KD HM d0 d1 d2 d3 p0 m0 lt1 lt2 lt3
                go_wp2_with fail
                have F0 := DF.of KW.drew
                have R3 := Lib.hid (RW.next (Below.refl _ _).drew)
                have hab : acc.length ≤ 64 := by have := Hacc.out; omega
                clear RW KW
                go_region_held3 (fun w' => (w'.cell? ⟨D, 0, none⟩ = some (.int .u64 (d.a : Int)) ∧ w'.cell? ⟨D, 1, none⟩ = some (.int .u32 (d.n : Int)) ∧ w'.cell? ⟨D, 2, none⟩ = some (.int .i64 (d.id : Int)) ∧ w'.cell? ⟨D, 3, none⟩ = some (.int .i64 (d.f : Int))) ∧ Blk w' D 35 #[.int .u64 (d.a : Int), .int .u32 (d.n : Int), .int .i64 (d.id : Int), .int .i64 (d.f : Int)])
                  ((refine (id (α := DF d D _) ?_); with_reducible (first | exact F0 | exact DF.next F0 hq | exact DF.alloc (DF.next F0 hq) _ | exact DF.grown (DF.alloc (DF.next F0 hq) _) O5.out hgrow)))
                  (first
                    | (go_at_call 69; ((with_reducible refine (HBd.out _).mono ?_); rintro e w' ⟨rfl, hq⟩; have R4 := R3.out.next hq; have O5 := Lib.hid (R4.own.alloc (.cells #[.int .i64 (d.a : Int), .int .i64 (d.n : Int), .bool b2] 56)); have HW := Lib.hid (World.news_of_block (w := w'.alloc (.cells #[.int .i64 (d.a : Int), .int .i64 (d.n : Int), .bool b2] 56)) (heap_alloc_new w' _)); have hbase := (R4.b.alloc R4.b.size (.cells #[.int .i64 (d.a : Int), .int .i64 (d.n : Int), .bool b2] 56)).size))
                    | (refine step_append_lies (w'.alloc (.cells #[.int .i64 (d.a : Int), .int .i64 (d.n : Int), .bool b2] 56)) rfl (.tmp 80) (.tmp 90) 49 rfl w.heap.size 56 i0 _ 3 24 Try.underlying49 HI.out HZ0.out HZ1.out HZ2.out rfl (by decide) (.slice A2 acc.length cap2) _ (ptCells acc) rfl O5.out ⟨w'.heap.size, 0, none⟩ 1 1 (Pt.cells ⟨d.a, d.n, b2⟩) rfl rfl HW.out (pt_one _) (by decide) (by unfold maxLen; omega) (by omega) hbase (w'.heap.size + 1) (by simp) ?_; intro g2 cap3 w6 hown hgrow hat hlt2))
                have R5 := R4.next (ba (Below.refl w'.heap.size w') (.cells #[.int .i64 (d.a : Int), .int .i64 (d.n : Int), .bool b2] 56))
                have R6 := Lib.hid (R5.grown (p := ⟨d.a, d.n, b2⟩) (s' := .slice (some ⟨g2, 0, none⟩) (acc.length + 1) cap3) hown hgrow)
                clear R4 R5 O5 HW hown hgrow hat hlt2 hbase hq
                go_wp2_with fail
                go_roundw
                case rel => exact ⟨acc ++ [⟨d.a, d.n, b2⟩], 0 + 1, by omega, by go_num, by have := Hacc.out; rw [List.length_append, List.length_singleton]; omega, R6.out, by rw [Hwr.out]; exact (map_step _ _ _).symm.trans HGV.out⟩
                case measure => simp [intOf]; omega


              | succ j =>
                have z1 : (0 : Int) < ((j + 1 : Nat) : Int) := by omega
                have hjl : j < l.length := by omega
                obtain ⟨d', hd'⟩ : ∃ d', l[j] = d' := ⟨_, rfl⟩
                have hok' := HL.out d' (by rw [← hd']; exact List.getElem_mem hjl)
                obtain ⟨v', hv'⟩ : ∃ v', d'.bit 2 = v' := ⟨_, rfl⟩
                have hwv : wrB l (j + 1) = v' := by rw [← hv']; show (match l[j]? with | some d => d.bit 2 | none => false) = _; rw [List.getElem?_eq_getElem hjl, hd']
                have HBv := fun W => rbit_any d' hok'.1 2 (.inl rfl) v' hv' W
                unfold De.v at HBv
                have HBv := Lib.hid HBv
                have gV := HG.out
                rw [hwv] at gV
                have Hgo2 := Hgo.out
                rw [hwv] at Hgo2
                have gV := Lib.hid (congrArg (fun o => Option.map (acc ++ ·) o) gV)
                have Hgo2 := Lib.hid Hgo2
                have hcl := desCells_at l j hjl
                rw [hd'] at hcl
                have Hcl := Lib.hid hcl
                clear hok' hv' hwv hd' hcl Hgo HG
                go_wp2_with (rw [HW1.out])
                try rw [hD]
                go_wp2_with fail
                go_quiet ((go_at_call 40; exact Calls.quiet_of_same ((HM.out _).mono fun _ _ hh => hh)))
                have RW := RR.out.next (below_drewN (Below.refl W1.heap.size W1) nq)
                have KW := (KD.out.same (w' := W1.drewN nq) rfl)
                obtain ⟨W2, hW2⟩ : ∃ W2, W1.drewN nq = W2 := ⟨_, rfl⟩
                rw [hW2] at RW KW ⊢
                clear hW2 RR KD HM d0 d1 d2 d3 p0 m0 lt1 lt2 lt3
                have hrw := RW.row.cells (g := gr) rfl
                have s0 := hrw _ _ Hcl.out.1
                have s1 := hrw _ _ Hcl.out.2.1
                have s2 := hrw _ _ Hcl.out.2.2.1
                have s3 := hrw _ _ Hcl.out.2.2.2
                rw [addr_zero] at s0 s1 s2 s3
                have y1 : (((j + 1 : Nat) : Int) - 1) = (j : Int) := by omega
                have y2 : (j : Int) < (n : Int) := by omega
                have RW := Lib.hid RW
                have KW := Lib.hid KW
                clear hrw
                go_wp2_with fail
                refine (HBv.out _).mono ?_
                rintro e w3 ⟨rfl, hq⟩
                have KW := KW.out.same (hq.block _ KW.out.lt)
                have RW := RW.out.next hq
                clear hq s0 s1 s2 s3 y1 y2
                have d0 := KW.cell 0
                have d1 := KW.cell 1
                have d2 := KW.cell 2
                have d3 := KW.cell 3
                simp only [List.getElem?_toArray, List.getElem?_cons_zero, List.getElem?_cons_succ] at d0 d1 d2 d3
                have RW := Lib.hid RW
                have KW := Lib.hid KW
                cases v' with
                | false =>
                  have gV := gV.out
                  rw [if_pos (by simp)] at gV
                  have HGV := Lib.hid (gV.symm.trans Hgo2.out)
                  clear gV
                  go_wp2_with fail
                  have RW := RW.out
                  have KW := KW.out
                  clear d0 d1 d2 d3
                  have F0 := DF.of KW.drew
                  have R3 := Lib.hid (RW.next (Below.refl _ _).drew)
                  have hab : acc.length ≤ 64 := by have := Hacc.out; omega
                  clear RW KW
                  go_region_held3 (fun w' => (w'.cell? ⟨D, 0, none⟩ = some (.int .u64 (d.a : Int)) ∧ w'.cell? ⟨D, 1, none⟩ = some (.int .u32 (d.n : Int)) ∧ w'.cell? ⟨D, 2, none⟩ = some (.int .i64 (d.id : Int)) ∧ w'.cell? ⟨D, 3, none⟩ = some (.int .i64 (d.f : Int))) ∧ Blk w' D 35 #[.int .u64 (d.a : Int), .int .u32 (d.n : Int), .int .i64 (d.id : Int), .int .i64 (d.f : Int)])
                    ((refine (id (α := DF d D _) ?_); with_reducible (first | exact F0 | exact DF.next F0 hq | exact DF.alloc (DF.next F0 hq) _ | exact DF.grown (DF.alloc (DF.next F0 hq) _) O5.out hgrow)))
                    (first
                      | (go_at_call 69; ((with_reducible refine (HBd.out _).mono ?_); rintro e w' ⟨rfl, hq⟩; have R4 := R3.out.next hq; have O5 := Lib.hid (R4.own.alloc (.cells #[.int .i64 (d.a : Int), .int .i64 (d.n : Int), .bool b2] 56)); have HW := Lib.hid (World.news_of_block (w := w'.alloc (.cells #[.int .i64 (d.a : Int), .int .i64 (d.n : Int), .bool b2] 56)) (heap_alloc_new w' _)); have hbase := (R4.b.alloc R4.b.size (.cells #[.int .i64 (d.a : Int), .int .i64 (d.n : Int), .bool b2] 56)).size))
                      | (refine step_append_lies (w'.alloc (.cells #[.int .i64 (d.a : Int), .int .i64 (d.n : Int), .bool b2] 56)) rfl (.tmp 80) (.tmp 90) 49 rfl w.heap.size 56 i0 _ 3 24 Try.underlying49 HI.out HZ0.out HZ1.out HZ2.out rfl (by decide) (.slice A2 acc.length cap2) _ (ptCells acc) rfl O5.out ⟨w'.heap.size, 0, none⟩ 1 1 (Pt.cells ⟨d.a, d.n, b2⟩) rfl rfl HW.out (pt_one _) (by decide) (by unfold maxLen; omega) (by omega) hbase (w'.heap.size + 1) (by simp) ?_; intro g2 cap3 w6 hown hgrow hat hlt2))
                  have R5 := R4.next (ba (Below.refl w'.heap.size w') (.cells #[.int .i64 (d.a : Int), .int .i64 (d.n : Int), .bool b2] 56))
                  have R6 := Lib.hid (R5.grown (p := ⟨d.a, d.n, b2⟩) (s' := .slice (some ⟨g2, 0, none⟩) (acc.length + 1) cap3) hown hgrow)
                  clear R4 R5 O5 HW hown hgrow hat hlt2 hbase hq
                  go_wp2_with fail
                  go_roundw
                  case rel => exact ⟨acc ++ [⟨d.a, d.n, b2⟩], (j + 1) + 1, by omega, by go_num, by have := Hacc.out; rw [List.length_append, List.length_singleton]; omega, R6.out, by rw [Hwr.out]; exact (map_step _ _ _).symm.trans HGV.out⟩
                  case measure => simp [intOf]; omega

                | true =>
                  go_wp2_with fail
                  refine (HBd.out _).mono ?_
                  rintro e w4 ⟨rfl, hq⟩
                  have KW := KW.out.same (hq.block _ KW.out.lt)
                  have RW := RW.out.next hq
                  clear hq d0 d1 d2 d3
                  cases b2 with
                  | false =>
                    obtain rfl : none = V := by
                      rw [← Hgo2.out]
                      have := gV.out
                      rw [if_neg (by simp)] at this
                      exact this.symm
                    go_wp2_with fail
                    go_ret2
                    exact ⟨RW.b, rfl⟩
                  | true =>
                    have gV := gV.out
                    rw [if_pos (by simp)] at gV
                    have HGV := Lib.hid (gV.symm.trans Hgo2.out)
                    clear gV
                    go_wp2_with fail
                    have F0 := DF.of KW.drew
                    have R3 := Lib.hid (RW.next (Below.refl _ _).drew)
                    have hab : acc.length ≤ 64 := by have := Hacc.out; omega
                    clear RW KW
                    go_region_held3 (fun w' => (w'.cell? ⟨D, 0, none⟩ = some (.int .u64 (d.a : Int)) ∧ w'.cell? ⟨D, 1, none⟩ = some (.int .u32 (d.n : Int)) ∧ w'.cell? ⟨D, 2, none⟩ = some (.int .i64 (d.id : Int)) ∧ w'.cell? ⟨D, 3, none⟩ = some (.int .i64 (d.f : Int))) ∧ Blk w' D 35 #[.int .u64 (d.a : Int), .int .u32 (d.n : Int), .int .i64 (d.id : Int), .int .i64 (d.f : Int)])
                      ((refine (id (α := DF d D _) ?_); with_reducible (first | exact F0 | exact DF.next F0 hq | exact DF.alloc (DF.next F0 hq) _ | exact DF.grown (DF.alloc (DF.next F0 hq) _) O5.out hgrow)))
                      (first
                        | (go_at_call 69; ((with_reducible refine (HBd.out _).mono ?_); rintro e w' ⟨rfl, hq⟩; have R4 := R3.out.next hq; have O5 := Lib.hid (R4.own.alloc (.cells #[.int .i64 (d.a : Int), .int .i64 (d.n : Int), .bool true] 56)); have HW := Lib.hid (World.news_of_block (w := w'.alloc (.cells #[.int .i64 (d.a : Int), .int .i64 (d.n : Int), .bool true] 56)) (heap_alloc_new w' _)); have hbase := (R4.b.alloc R4.b.size (.cells #[.int .i64 (d.a : Int), .int .i64 (d.n : Int), .bool true] 56)).size))
                        | (refine step_append_lies (w'.alloc (.cells #[.int .i64 (d.a : Int), .int .i64 (d.n : Int), .bool true] 56)) rfl (.tmp 80) (.tmp 90) 49 rfl w.heap.size 56 i0 _ 3 24 Try.underlying49 HI.out HZ0.out HZ1.out HZ2.out rfl (by decide) (.slice A2 acc.length cap2) _ (ptCells acc) rfl O5.out ⟨w'.heap.size, 0, none⟩ 1 1 (Pt.cells ⟨d.a, d.n, true⟩) rfl rfl HW.out (pt_one _) (by decide) (by unfold maxLen; omega) (by omega) hbase (w'.heap.size + 1) (by simp) ?_; intro g2 cap3 w6 hown hgrow hat hlt2))
                    have R5 := R4.next (ba (Below.refl w'.heap.size w') (.cells #[.int .i64 (d.a : Int), .int .i64 (d.n : Int), .bool true] 56))
                    have R6 := Lib.hid (R5.grown (p := ⟨d.a, d.n, true⟩) (s' := .slice (some ⟨g2, 0, none⟩) (acc.length + 1) cap3) hown hgrow)
                    clear R4 R5 O5 HW hown hgrow hat hlt2 hbase hq
                    go_wp2_with fail
                    go_roundw
                    case rel => exact ⟨acc ++ [⟨d.a, d.n, true⟩], (j + 1) + 1, by omega, by go_num, by have := Hacc.out; rw [List.length_append, List.length_singleton]; omega, R6.out, by rw [Hwr.out]; exact (map_step _ _ _).symm.trans HGV.out⟩
                    case measure => simp [intOf]; omega

            · obtain rfl : none = V := by
                have hfit : d.fit xs = false := by unfold De.fit; exact decide_eq_false (by omega)
                rw [← Hgo.out]
                unfold partsGo
                rw [hfit]
                simp
              have q1 : (((d.n : Nat) : Int) == 0) = false := by simp; omega
              have q2 : decide ((S0.size : Int) < (d.n : Int)) = false := decide_eq_false (by omega)
              have q3 : decide ((S0.size : Int) < (d.a : Int)) = false := decide_eq_false (by omega)
              have v3 : IntKind.i64.wrap (d.a : Int) = (d.a : Int) := by rw [IntKind.wrap_i64]; omega
              have hmb : mayB xs (d.a : Int) (d.n : Int) = false := by unfold mayB; exact decide_eq_false (by omega)
              rw [hmb] at HM
              clear hmb
              clear hdn hda hok hwr hb4 hk
              go_wp2_with (rw [HW1.out])
              skip
              try rw [hD]
              go_wp2_with fail
              go_quiet ((go_at_call 40; exact Calls.quiet_of_same ((HM.out _).mono fun _ _ hh => hh)))
              go_wp2_with fail
              go_ret2
              exact ⟨below_drewN RR.out.b _, rfl⟩

    · have hkn2 : ¬ (k : Int) < (n : Int) := by omega
      obtain rfl : k = n := by omega
      have e : some acc = V := by rw [← hgo, List.drop_eq_nil_of_le (by rw [HN.out]; omega)]; simp [partsGo]
      subst e
      subst hacc
      go_wp2_with fail
      go_ret2
      exact ⟨R.b, A2, cap2, rfl, R.own⟩
end Go.Proofs.Ytoblemgeacllkaa
namespace Go.Proofs.Ytoblemgeacllkaa
open Go.RowKit

def anyB (l : List De) : Bool := l.any (·.bit 4)
theorem anyB_snoc (l : List De) (d : De) : anyB (l ++ [d]) = (anyB l || d.bit 4) := by simp [anyB]
theorem take_step (l : List De) (k : Nat) (h : k < l.length) : l.take (k + 1) = l.take k ++ [l[k]] := by rw [List.take_add_one, List.getElem?_eq_getElem h]; rfl
theorem parts_any4 {xs : List UInt8} : ∀ {l : List De} {w : Bool}, anyB l = true → partsGo xs l w = none := by
  intro l
  induction l with
  | nil => intro w h; simp [anyB] at h
  | cons d r ih =>
    intro w h
    unfold partsGo
    split
    · rename_i hc
      have h4 : d.bit 4 = false := by simp at hc; exact hc.1.1
      have hr : anyB r = true := by simp [anyB, h4] at h ⊢; exact h
      rw [ih hr]; rfl
    · rfl
theorem chain_of {xs : List UInt8} {q : Qs} {l n : List De} (h : ringV xs q = some l) (hn : nameV xs l = some n) : chainV xs q = (partsGo xs n false).map fun p => ⟨lastId l, l.length, p⟩ := by
  unfold chainV; rw [h]; show ((nameV xs l).bind _) = _; rw [hn]; rfl
theorem chain_none1 {xs : List UInt8} {q : Qs} (h : ringV xs q = none) : chainV xs q = none := by unfold chainV; rw [h]; rfl
theorem chain_none2 {xs : List UInt8} {q : Qs} {l : List De} (h : ringV xs q = some l) (hn : nameV xs l = none) : chainV xs q = none := by
  unfold chainV; rw [h]; show ((nameV xs l).bind _) = _; rw [hn]; rfl
/-- without a table -/
theorem chain_plain {xs : List UInt8} {q : Qs} {l : List De} (h : ringV xs q = some l) (ha : anyB l = false) : chainV xs q = (partsGo xs l false).map fun p => ⟨lastId l, l.length, p⟩ := by
  refine chain_of h ?_
  match l, ha with
  | [], _ => rfl
  | [d], ha => exact nameV_one xs d (by simpa [anyB] using ha)
  | _ :: _ :: _, _ => rfl
theorem chain_bad {xs : List UInt8} {q : Qs} {l : List De} (h : ringV xs q = some l) (ha : anyB l = true) (hl : 1 < l.length) : chainV xs q = none := by
  rw [chain_of h (nameV_more xs l (by omega)), parts_any4 ha]; rfl
theorem ring_len {xs : List UInt8} {q : Qs} {l : List De} (h : ringV xs q = some l) : 1 ≤ l.length ∧ l.length ≤ 64 := by
  have h1 := ringGo_length h
  simp only [List.length_nil] at h1
  unfold allowed at h1
  omega
theorem lastId_get {l : List De} {j : Nat} (h : l.length = j + 1) : lastId l = (l[j]'(by omega)).id := by
  unfold lastId
  rw [List.getLast?_eq_getElem?, show l.length - 1 = j by omega, List.getElem?_eq_getElem (by omega)]
theorem chain_results (f : Func) (w : World) (tmps : Array Value) (gf : Nat) (ok : Bool) (hf : f.results = Try.f45.results) (h2 : tmps[2]?.getD undef = .pointer (some ⟨gf, 0, none⟩)) (h3 : tmps[3]?.getD undef = .bool ok) (a b c : Value)
    (hF : Blk w gf 51 #[a, b, c]) : (results f tmps).run Try.prog w = .ok (.tuple #[.agg #[a, b, c], .bool ok]) w := by
  have c0 := hF.cell 0
  have c1 := hF.cell 1
  have c2 := hF.cell 2
  simp only [List.getElem?_toArray, List.getElem?_cons_zero, List.getElem?_cons_succ] at c0 c1 c2
  simp [results, hf, Try.f45, go_sem, h2, h3, c0, c1, c2]
/-- what chain answers -/
def ChnP (w : World) (V : Option Ch) (e : Ending) (w' : World) : Prop :=
  Below w.heap.size w w' ∧ match V with
  | some h => ∃ (A : Option Addr) (cap : Nat), e = .returned (.tuple #[.agg #[.int .i64 (h.id : Int), .int .i64 (h.count : Int), .slice A h.parts.length cap], .bool true]) ∧ w'.ownsRow w.heap.size 56 3 (.slice A h.parts.length cap) h.parts.length (ptCells h.parts)
  | none => ∃ (x y : Int) (A : Option Addr) (n cap : Nat), e = .returned (.tuple #[.agg #[.int .i64 x, .int .i64 y, .slice A n cap], .bool false])
/-- chain under way: its result, its chain, the descriptors -/
structure CL (gx gk : Nat) (q : Qs) (xs : List UInt8) (w : World) (A : Option Addr) (cap : Nat) (l : List De) (C : Nat) (id : Nat) (n : Nat) (W : World) : Prop where
  rq : Rq gx gk q xs w
  b : Below w.heap.size w W
  row : W.ownsRow 0 35 4 (.slice A l.length cap) l.length (desCells l)
  res : Blk W w.heap.size 51 #[.int .i64 0, .int .i64 0, .slice none 0 0]
  c : Blk W C 51 #[.int .i64 (id : Int), .int .i64 (n : Int), .slice none 0 0]
  ge : w.heap.size < C
section
variable {gx gk : Nat} {q : Qs} {xs : List UInt8} {w W W' : World} {A : Option Addr} {cap : Nat} {l : List De} {C id n : Nat}
theorem CL.next (h : CL gx gk q xs w A cap l C id n W) (hq : Below W.heap.size W W') : CL gx gk q xs w A cap l C id n W' :=
  ⟨h.rq, b0 h.b hq, own_same h.row (fun k hk => hq.block k (h.row.lt k hk).2), h.res.same (hq.block _ h.res.lt), h.c.same (hq.block _ h.c.lt), h.ge⟩
theorem CL.r (h : CL gx gk q xs w A cap l C id n W) : Rq gx gk q xs W := h.rq.below h.b
theorem CL.facts (h : CL gx gk q xs w A cap l C id n W) :
    W.cell? ⟨w.heap.size, 0, none⟩ = some (.int .i64 0) ∧ W.cell? ⟨w.heap.size, 1, none⟩ = some (.int .i64 0) ∧ W.cell? ⟨w.heap.size, 2, none⟩ = some (.slice none 0 0) ∧
    W.frozen? ⟨w.heap.size, 0, none⟩ = false ∧ W.frozen? ⟨w.heap.size, 1, none⟩ = false ∧ W.frozen? ⟨w.heap.size, 2, none⟩ = false ∧ w.heap.size < W.heap.size := ⟨h.res.cell 0, h.res.cell 1, h.res.cell 2, h.res.frozen 0, h.res.frozen 1, h.res.frozen 2, h.res.lt⟩
end
end Go.Proofs.Ytoblemgeacllkaa
namespace Go.Proofs.Ytoblemgeacllkaa
open Go.RowKit

/-- the table under way -/
structure TL (gx gk : Nat) (q : Qs) (xs : List UInt8) (w : World) (C idv n D : Nat) (d : De) (s : Value) (k : Nat) (W : World) : Prop where
  rq : Rq gx gk q xs w
  b : Below w.heap.size w W
  own : W.ownsRow w.heap.size 35 4 s k (desCells (tabP xs d.a k))
  res : Blk W w.heap.size 51 #[.int .i64 0, .int .i64 0, .slice none 0 0]
  c : Blk W C 51 #[.int .i64 (idv : Int), .int .i64 (n : Int), .slice none 0 0]
  ge : w.heap.size < C
  d : Blk W D 35 #[.int .u64 (d.a : Int), .int .u32 (d.n : Int), .int .i64 (d.id : Int), .int .i64 (d.f : Int)]
  off : ∀ g, s.ownBlock = some g → D < g
section
variable {gx gk : Nat} {q : Qs} {xs : List UInt8} {w W W' : World} {C idv n D : Nat} {d : De} {s s' : Value} {k : Nat}
theorem TL.next (h : TL gx gk q xs w C idv n D d s k W) (hq : Below W.heap.size W W') : TL gx gk q xs w C idv n D d s k W' :=
  ⟨h.rq, b0 h.b hq, own_same h.own (fun k hk => hq.block k (h.own.lt k hk).2), h.res.same (hq.block _ h.res.lt), h.c.same (hq.block _ h.c.lt), h.ge, h.d.same (hq.block _ h.d.lt), h.off⟩
theorem TL.r (h : TL gx gk q xs w C idv n D d s k W) : Rq gx gk q xs W := h.rq.below h.b
theorem TL.grown (h : TL gx gk q xs w C idv n D d s k W) {e : De} (he : deAt xs (d.a + 16 * k) = e) (hown : W'.ownsRow w.heap.size 35 4 s' (k + 1) (desCells (tabP xs d.a k) ++ De.cells e)) (hg : W.grownBy W' s.ownBlock) (hoff : ∀ g, s'.ownBlock = some g → D < g) : TL gx gk q xs w C idv n D d s' (k + 1) W' := by
  refine ⟨h.rq, h.b.grown hg h.b.size (fun k hk => (h.own.lt k hk).1), ?_, h.res.grown h.own hg (by decide), h.c.grown h.own hg (by decide), h.ge, h.d.same (hg.block _ h.d.lt (fun x => by have := h.off D x.symm; omega)), hoff⟩
  rw [tabP_succ, desCells_append, he]
  have x : desCells [e] = De.cells e := by simp [desCells]
  rw [x]
  exact hown
end
theorem off_next {s : Value} {D g2 a b H : Nat} (h : ∀ g, s.ownBlock = some g → D < g) (hat : s.ownBlock = some g2 ∨ g2 = H) (hH : D < H) : ∀ g, (Value.slice (some ⟨g2, 0, none⟩) a b).ownBlock = some g → D < g := by
  intro g hg
  have e : g2 = g := by simpa [Value.ownBlock] using hg
  subst e
  rcases hat with x | x
  · exact h _ x
  · omega
theorem name_bad {xs : List UInt8} {d : De} (h4 : d.bit 4 = true) (h : ¬ (0 < d.n ∧ d.n % 16 = 0 ∧ d.n ≤ 1024 ∧ d.a + d.n ≤ xs.length)) : nameV xs [d] = none := by
  rw [nameV_tab xs d h4, if_neg]
  unfold tabOk
  simpa using h
theorem name_tab {xs : List UInt8} {d : De} (h4 : d.bit 4 = true) (h : 0 < d.n ∧ d.n % 16 = 0 ∧ d.n ≤ 1024 ∧ d.a + d.n ≤ xs.length) (T : Nat) (hT : d.n = 16 * T) : nameV xs [d] = some (tabP xs d.a T) := by
  rw [nameV_tab xs d h4, if_pos (by unfold tabOk; exact decide_eq_true h)]
  unfold tabL tabP
  rw [hT]
  congr 3
  omega
theorem anyB_tab {xs : List UInt8} {a : Nat} {k T : Nat} (hk : k < T) (h : (deAt xs (a + 16 * k)).bit 4 = true) : anyB (tabP xs a T) = true := by
  unfold anyB tabP
  rw [List.any_eq_true]
  exact ⟨_, List.mem_map.2 ⟨k, List.mem_range.2 hk, rfl⟩, h⟩
set_option maxRecDepth 100000 in
set_option maxHeartbeats 12800000 in
theorem rchain_any {gx gk : Nat} {q : Qs} {xs : List UInt8} {w : World} (h : Rq gx gk q xs w) (hq : q.Ok xs.length) (hout : q.out < q.size) :
    Calls Try.prog 45 #[.pointer (some ⟨gx, 0, none⟩)] w (ChnP w (chainV xs q)) := by
  obtain ⟨i0, hi, hz0, hz1, hz2⟩ := info_parts Try.info35
  have HI := Lib.hid hi
  have HZ0 := Lib.hid hz0
  have HZ1 := Lib.hid hz1
  have HZ2 := Lib.hid hz2
  have H := Lib.hid h
  have HQ := Lib.hid hq
  have hlx := h.len
  obtain ⟨V, hV⟩ : ∃ V, chainV xs q = V := ⟨_, rfl⟩
  rw [hV]
  have HV := Lib.hid hV
  have HRg := fun W (h : Rq gx gk q xs W) => ring_any h hq hout
  obtain ⟨VR, hVR⟩ : ∃ VR, ringV xs q = VR := ⟨_, rfl⟩
  rw [hVR] at HRg
  have HRg := Lib.hid HRg
  have HVR := Lib.hid hVR
  clear hi hz0 hz1 hz2 h hq hV hVR hout
  go_enter Try.func45, Try.ntmps45
  go_wp2_with fail
  refine (HRg.out _ (H.out.below (ba (Below.refl _ _) _))).mono ?_
  rintro e w1 ⟨hq1, A, cap, l, hm, hrow⟩
  have kres := (Blk.new w 51 #[.int .i64 0, .int .i64 0, .slice none 0 0]).same (hq1.block _ (Blk.new w 51 _).lt)
  have hb1 := b0 (ba (Below.refl _ _) _) hq1
  clear hq1 HRg
  cases VR with
  | none =>
    obtain rfl := hm
    have y0 := kres.cell 0
    have y1 := kres.cell 1
    have y2 := kres.cell 2
    have y3 := kres.frozen 0
    have y4 := kres.frozen 1
    have y5 := kres.frozen 2
    have y6 := kres.lt
    simp only [List.getElem?_toArray, List.getElem?_cons_zero, List.getElem?_cons_succ] at  y0 y1 y2
    have HZ := Lib.hid (put3B hb1 kres (Nat.le_refl _) (.int .i64 0) (.int .i64 0) (.slice none 0 0))
    go_wp2_with fail
    obtain rfl : none = V := by rw [← HV.out, chain_none1 HVR.out]
    exact bodyPost_ret (v := .tuple #[.agg #[.int .i64 0, .int .i64 0, .slice none 0 0], .bool false]) (chain_results _ _ _ w.heap.size false rfl rfl rfl _ _ _ HZ.out.2) rfl ⟨HZ.out.1, 0, 0, none, 0, 0, rfl⟩

  | some r =>
    obtain ⟨rfl, rfl⟩ := hm
    have hlen := ring_len HVR.out
    obtain ⟨j, hj⟩ : ∃ j, l.length = j + 1 := ⟨l.length - 1, by omega⟩
    have hlid := lastId_get hj
    have HLOK : Hid (∀ d ∈ l, d.Ok) := Lib.hid (ringGo_ok HQ.out.r HQ.out.s1 HQ.out.na (by simp) (deAt_ok xs _ (by have := HQ.out.r; have := HQ.out.na; omega)) HVR.out)
    obtain ⟨gr, cap', he, _, hltg⟩ := hrow.form (by omega)
    injection he with h1 h2 h3
    subst h1 h3
    have hcl := desCells_at l j (by omega)
    have hrw := hrow.cells (g := gr) rfl
    have r2 := hrw _ _ hcl.2.2.1
    rw [addr_zero] at r2
    obtain ⟨idv, hid⟩ : ∃ idv, (l[j]'(by omega)).id = idv := ⟨_, rfl⟩
    rw [hid] at r2 hlid
    obtain ⟨n, hn⟩ : ∃ n, l.length = n := ⟨_, rfl⟩
    have e1 : (n : Int) - 1 = (j : Int) := by omega
    have e2 : (j : Int) < (n : Int) := by omega
    have C0 : CL gx gk q xs w (some ⟨gr, 0, none⟩) cap l w1.heap.size idv n (w1.alloc (.cells #[.int .i64 (idv : Int), .int .i64 (n : Int), .slice none 0 0] 51)) :=
      ⟨H.out, ba hb1 _, (own_base hrow (Nat.zero_le _)).alloc _, kres.alloc _, Blk.new _ _ _, kres.lt⟩
    have HC0 := Lib.hid C0
    have HN := Lib.hid hn
    have HID := Lib.hid hlid
    rw [hn] at hlen ⊢
    clear hcl hrw hrow kres hb1 hid hlid C0 hj hn
    go_wp2_with fail
    generalize w1.heap.size = C at HC0 ⊢
    clear r2 e1 e2 hltg
    go_loopw [7, 8] (fun bv iv wr => ∃ (k : Nat) (b : Bool), k ≤ n ∧ iv = .int .i64 (k : Int) ∧ bv = .bool b ∧ anyB (l.take k) = b ∧ CL gx gk q xs w (some ⟨gr, 0, none⟩) cap l C idv n wr) (fun _ iv _ => n - (intOf iv).toNat)
    case atStart => exact ⟨0, false, Nat.zero_le _, rfl, rfl, rfl, HC0.out⟩
    case round =>
      obtain ⟨k, b, hk, rfl, rfl, hb, CC⟩ := hrel
      clear HC0
      by_cases hkn : k < n
      · have hkl : k < l.length := by rw [HN.out]; exact hkn
        have hst := take_step l k hkl
        have hkb : (k : Int) < (n : Int) := by omega
        cases b with
        | true =>
          have Hb : Hid (anyB (l.take (k + 1)) = true) := by show _ = _; rw [hst, anyB_snoc, hb]; rfl
          have HC := Lib.hid CC
          clear hst hb CC
          go_wp2_with fail
          go_roundw
          case rel => exact ⟨k + 1, true, by omega, by go_num, rfl, Hb.out, HC.out⟩
          case measure => simp [intOf]; omega
        | false =>
          obtain ⟨d, hd⟩ : ∃ d, l[k] = d := ⟨_, rfl⟩
          have hok := HLOK.out d (by rw [← hd]; exact List.getElem_mem hkl)
          obtain ⟨b4, hb4⟩ : ∃ b4, d.bit 4 = b4 := ⟨_, rfl⟩
          have Hb : Hid (anyB (l.take (k + 1)) = b4) := by show _ = _; rw [hst, anyB_snoc, hb, hd, hb4]; rfl
          have HB4 := fun W => rbit_any d hok 4 (.inr rfl) b4 hb4 W
          unfold De.v at HB4
          have HB4 := Lib.hid HB4
          have hcl := desCells_at l k hkl
          rw [hd] at hcl
          have hrw := CC.row.cells (g := gr) rfl
          have r0 := hrw _ _ hcl.1
          have r1 := hrw _ _ hcl.2.1
          have r2 := hrw _ _ hcl.2.2.1
          have r3 := hrw _ _ hcl.2.2.2
          rw [addr_zero] at r0 r1 r2 r3
          have HC := Lib.hid CC
          clear hst hb CC hcl hrw hd hb4 hok
          go_wp2_with fail
          refine (HB4.out _).mono ?_
          rintro e w3 ⟨rfl, hq⟩
          have HC3 := Lib.hid (HC.out.next hq)
          clear r0 r1 r2 r3 hq HC
          go_wp2_with fail
          go_roundw
          case rel => exact ⟨k + 1, b4, by omega, by go_num, rfl, Hb.out, HC3.out⟩
          case measure => simp [intOf]; omega
      · obtain rfl : k = n := by omega
        have hkb : ¬ (k : Int) < (k : Int) := by omega
        rw [List.take_of_length_le (by rw [HN.out]; exact Nat.le_refl _)] at hb
        cases b with
        | false =>
          have hpre : ∀ d ∈ l, d.Ok ∧ d.bit 4 = false := fun d hd => ⟨HLOK.out d hd, by
            have := List.any_eq_false.1 hb d hd
            simpa using this⟩
          have row2 := CC.row
          rw [HN.out] at row2
          have row3 := CC.row
          go_wp2_with fail
          have HPt := rparts_any CC.r l hpre (by rw [HN.out]; exact hlen.2) (some ⟨gr, 0, none⟩) cap row3
          rw [HN.out] at HPt
          refine HPt.mono ?_
          rintro e w5 ⟨hq5, hm⟩
          have c5 := CC.c.same (hq5.block _ CC.c.lt)
          have r5 := CC.res.same (hq5.block _ CC.res.lt)
          have b5 := b0 CC.b hq5
          have hge := CC.ge
          obtain ⟨VP, hVP⟩ : ∃ VP, partsGo xs l false = VP := ⟨_, rfl⟩
          rw [hVP] at hm
          have y0 := c5.cell 0
          have y1 := c5.cell 1
          have y2 := c5.cell 2
          have x0 := r5.cell 0
          have x1 := r5.cell 1
          have x2 := r5.cell 2
          simp only [List.getElem?_toArray, List.getElem?_cons_zero, List.getElem?_cons_succ] at  y0 y1 y2 x0 x1 x2
          have y3 := c5.frozen 0
          have y4 := c5.frozen 1
          have y5 := c5.frozen 2
          have x3 := r5.frozen 0
          have x4 := r5.frozen 1
          have x5 := r5.frozen 2
          have y6 := c5.lt
          have x6 := r5.lt
          have hCne : ¬ C = w.heap.size := by omega
          cases VP with
          | none =>
            obtain rfl := hm
            obtain rfl : none = V := by rw [← HV.out, chain_plain HVR.out hb, hVP]; rfl
            have b6 := b5.setCell (p := ⟨C, 2, none⟩) (Nat.le_of_lt hge) (.slice none 0 0)
            have r6 := r5.other (k := C) (Nat.ne_of_lt hge) 2 (.slice none 0 0)
            have HZ := Lib.hid (put3B b6 r6 (Nat.le_refl _) (.int .i64 (idv : Int)) (.int .i64 (k : Int)) (.slice none 0 0))
            clear c5 r5 b5 b6 r6 hq5 hVP CC
            go_wp2_with fail
            exact bodyPost_ret (v := .tuple #[.agg #[.int .i64 (idv : Int), .int .i64 (k : Int), .slice none 0 0], .bool false]) (chain_results _ _ _ w.heap.size false rfl rfl rfl _ _ _ HZ.out.2) rfl ⟨HZ.out.1, idv, k, none, 0, 0, rfl⟩
          | some pts =>
            obtain ⟨Ap, capp, rfl, ownp⟩ := hm
            obtain rfl : some ⟨idv, k, pts⟩ = V := by rw [← HV.out, chain_plain HVR.out hb, hVP, HID.out, HN.out]; rfl
            have b6 := b5.setCell (p := ⟨C, 2, none⟩) (Nat.le_of_lt hge) (.slice Ap pts.length capp)
            have r6 := r5.other (k := C) (Nat.ne_of_lt hge) 2 (.slice Ap pts.length capp)
            have HZ := Lib.hid (put3B b6 r6 (Nat.le_refl _) (.int .i64 (idv : Int)) (.int .i64 (k : Int)) (.slice Ap pts.length capp))
            have o6 := own_put ownp (k := C) (fun g hg e => own_ne ownp c5 (by decide) (e ▸ hg)) 2 (.slice Ap pts.length capp)
            have hne : ∀ g, (Value.slice Ap pts.length capp).ownBlock = some g → g ≠ w.heap.size := fun g hg e => own_ne ownp r5 (by decide) (e ▸ hg)
            have HO6 := Lib.hid (own_base (own_put (own_put (own_put o6 hne 0 (.int .i64 (idv : Int))) hne 1 (.int .i64 (k : Int))) hne 2 (.slice Ap pts.length capp)) CC.b.size)
            clear c5 r5 b5 b6 r6 hq5 hVP CC o6 hne ownp
            go_wp2_with fail
            exact bodyPost_ret (v := .tuple #[.agg #[.int .i64 (idv : Int), .int .i64 (k : Int), .slice Ap pts.length capp], .bool true]) (chain_results _ _ _ w.heap.size true rfl rfl rfl _ _ _ HZ.out.2) rfl ⟨HZ.out.1, Ap, capp, rfl, HO6.out⟩

        | true =>
          by_cases h1n : 1 < k
          · have e3 : (1 : Int) < (k : Int) := by omega
            have kres := CC.res
            have hb1 := CC.b
            have y0 := kres.cell 0
            have y1 := kres.cell 1
            have y2 := kres.cell 2
            have y3 := kres.frozen 0
            have y4 := kres.frozen 1
            have y5 := kres.frozen 2
            have y6 := kres.lt
            simp only [List.getElem?_toArray, List.getElem?_cons_zero, List.getElem?_cons_succ] at  y0 y1 y2
            have HZ := Lib.hid (put3B hb1 kres (Nat.le_refl _) (.int .i64 0) (.int .i64 0) (.slice none 0 0))
            go_wp2_with fail
            obtain rfl : none = V := by rw [← HV.out, chain_bad HVR.out hb (by rw [HN.out]; exact h1n)]
            exact bodyPost_ret (v := .tuple #[.agg #[.int .i64 0, .int .i64 0, .slice none 0 0], .bool false]) (chain_results _ _ _ w.heap.size false rfl rfl rfl _ _ _ HZ.out.2) rfl ⟨HZ.out.1, 0, 0, none, 0, 0, rfl⟩

          · have hk1 : k = 1 := by omega
            obtain ⟨d, hd⟩ : ∃ d, l = [d] := List.length_eq_one_iff.1 (by rw [HN.out]; exact hk1)
            have h4 : d.bit 4 = true := by rw [hd] at hb; simpa [anyB] using hb
            have hok := HLOK.out d (by rw [hd]; simp)
            have hcl := desCells_at l 0 (by rw [HN.out]; omega)
            have hl0 : l[0]'(by rw [HN.out]; omega) = d := by simp [hd]
            rw [hl0] at hcl
            have hrw := CC.row.cells (g := gr) rfl
            have r0 := hrw _ _ hcl.1
            have r1 := hrw _ _ hcl.2.1
            have r2 := hrw _ _ hcl.2.2.1
            have r3 := hrw _ _ hcl.2.2.2
            rw [addr_zero] at r0 r1 r2 r3
            have e3 : ¬ (1 : Int) < (k : Int) := by omega
            have e4 : (0 : Int) < (k : Int) := by omega
            have hdn := hok.n
            have hda := hok.a
            have C1 := CC.next (ba (Below.refl wr.heap.size wr) (.cells #[.int .u64 (d.a : Int), .int .u32 (d.n : Int), .int .i64 (d.id : Int), .int .i64 (d.f : Int)] 35))
            have kD := Blk.new wr 35 #[.int .u64 (d.a : Int), .int .u32 (d.n : Int), .int .i64 (d.id : Int), .int .i64 (d.f : Int)]
            obtain ⟨W1, hW1⟩ : ∃ W1, wr.alloc (.cells #[.int .u64 (d.a : Int), .int .u32 (d.n : Int), .int .i64 (d.id : Int), .int .i64 (d.f : Int)] 35) = W1 := ⟨_, rfl⟩
            obtain ⟨D, hD⟩ : ∃ D, wr.heap.size = D := ⟨_, rfl⟩
            rw [hW1] at C1 kD
            rw [hD] at kD
            have HW1 := Lib.hid hW1
            have hrq := C1.r
            have p0 : W1.cell? ⟨gx, 0, none⟩ = some (.pointer (some ⟨gk, 0, none⟩)) := hrq.blk.cell 0
            have m0 := hrq.c0
            have lt1 := hrq.lt
            have lt2 := hrq.ltk
            have lt3 := kD.lt
            have d0 := kD.cell 0
            have d1 := kD.cell 1
            have d2 := kD.cell 2
            have d3 := kD.cell 3
            simp only [List.getElem?_toArray, List.getElem?_cons_zero, List.getElem?_cons_succ] at d0 d1 d2 d3
            have hs : (⟨xs.toArray⟩ : ByteArray).size = xs.length := by show xs.toArray.size = _; simp
            obtain ⟨S0, hS0⟩ : ∃ S0 : ByteArray, ⟨xs.toArray⟩ = S0 := ⟨_, rfl⟩
            rw [hS0] at hs m0
            have v1 : IntKind.i64.wrap (d.n : Int) = (d.n : Int) := by rw [IntKind.wrap_i64]; omega
            have v2 : IntKind.u64.wrap (S0.size : Int) = (S0.size : Int) := IntWalk.u64_in _ (by omega)
            have HM := Lib.hid (fun (j : Nat) => (hrq.below (below_drewN (Below.refl W1.heap.size W1) j)).may (d.a : Int) (d.n : Int))
            have C1 := Lib.hid C1
            have KD := Lib.hid kD
            have HD := Lib.hid hd
            have H4 := Lib.hid h4
            have HK1 := Lib.hid hk1
            clear hcl hrw hl0 hrq hW1 hS0 hok hd h4 hb kD hk1 CC
            by_cases c1 : d.n = 0
            · have hbad : ¬ (0 < d.n ∧ d.n % 16 = 0 ∧ d.n ≤ 1024 ∧ d.a + d.n ≤ xs.length) := by omega
              have Hnm := Lib.hid (name_bad H4.out hbad)
              have q1 : (((d.n : Nat) : Int) == 0) = true := by simp; omega
              clear hbad c1
              go_wp2_with (rw [HW1.out])
              try rw [hD]
              go_wp2_with fail
              go_quiet ((go_at_call 40; exact Calls.quiet_of_same ((HM.out _).mono fun _ _ hh => hh)))
              have hb1 := below_drewN C1.out.b nq
              have kres := C1.out.res.same (w' := W1.drewN nq) rfl
              obtain ⟨W2, hW2⟩ : ∃ W2, W1.drewN nq = W2 := ⟨_, rfl⟩
              rw [hW2] at hb1 kres ⊢
              clear hW2 d0 d1 d2 d3 p0 m0 lt1 lt2 lt3 r0 r1 r2 r3
              have y0 := kres.cell 0
              have y1 := kres.cell 1
              have y2 := kres.cell 2
              have y3 := kres.frozen 0
              have y4 := kres.frozen 1
              have y5 := kres.frozen 2
              have y6 := kres.lt
              simp only [List.getElem?_toArray, List.getElem?_cons_zero, List.getElem?_cons_succ] at  y0 y1 y2
              have HZ := Lib.hid (put3B hb1 kres (Nat.le_refl _) (.int .i64 0) (.int .i64 0) (.slice none 0 0))
              go_wp2_with fail
              obtain rfl : none = V := by rw [← HV.out]; exact (chain_none2 HVR.out (by rw [HD.out]; exact Hnm.out)).symm
              exact bodyPost_ret (v := .tuple #[.agg #[.int .i64 0, .int .i64 0, .slice none 0 0], .bool false]) (chain_results _ _ _ w.heap.size false rfl rfl rfl _ _ _ HZ.out.2) rfl ⟨HZ.out.1, 0, 0, none, 0, 0, rfl⟩

            · by_cases c2 : d.n % 16 = 0
              · by_cases c3 : 1024 < d.n
                · have hbad : ¬ (0 < d.n ∧ d.n % 16 = 0 ∧ d.n ≤ 1024 ∧ d.a + d.n ≤ xs.length) := by omega
                  have Hnm := Lib.hid (name_bad H4.out hbad)
                  have q1 : (((d.n : Nat) : Int) == 0) = false := by simp; omega
                  have q2 : (((d.n : Int) % 16) == 0) = true := by simp; omega
                  have q2b : (((d.n : Int) % 16) != 0) = false := by simp; omega
                  have q3 : (1024 : Int) < (d.n : Int) := by omega
                  clear hbad c2
                  go_wp2_with (rw [HW1.out])
                  try rw [hD]
                  go_wp2_with fail
                  go_quiet ((go_at_call 40; exact Calls.quiet_of_same ((HM.out _).mono fun _ _ hh => hh)))
                  have hb1 := below_drewN C1.out.b nq
                  have kres := C1.out.res.same (w' := W1.drewN nq) rfl
                  obtain ⟨W2, hW2⟩ : ∃ W2, W1.drewN nq = W2 := ⟨_, rfl⟩
                  rw [hW2] at hb1 kres ⊢
                  clear hW2 d0 d1 d2 d3 p0 m0 lt1 lt2 lt3 r0 r1 r2 r3
                  have y0 := kres.cell 0
                  have y1 := kres.cell 1
                  have y2 := kres.cell 2
                  have y3 := kres.frozen 0
                  have y4 := kres.frozen 1
                  have y5 := kres.frozen 2
                  have y6 := kres.lt
                  simp only [List.getElem?_toArray, List.getElem?_cons_zero, List.getElem?_cons_succ] at  y0 y1 y2
                  have HZ := Lib.hid (put3B hb1 kres (Nat.le_refl _) (.int .i64 0) (.int .i64 0) (.slice none 0 0))
                  go_wp2_with fail
                  obtain rfl : none = V := by rw [← HV.out]; exact (chain_none2 HVR.out (by rw [HD.out]; exact Hnm.out)).symm
                  exact bodyPost_ret (v := .tuple #[.agg #[.int .i64 0, .int .i64 0, .slice none 0 0], .bool false]) (chain_results _ _ _ w.heap.size false rfl rfl rfl _ _ _ HZ.out.2) rfl ⟨HZ.out.1, 0, 0, none, 0, 0, rfl⟩

                · by_cases c4 : xs.length < d.a
                  · have hbad : ¬ (0 < d.n ∧ d.n % 16 = 0 ∧ d.n ≤ 1024 ∧ d.a + d.n ≤ xs.length) := by omega
                    have Hnm := Lib.hid (name_bad H4.out hbad)
                    have q1 : (((d.n : Nat) : Int) == 0) = false := by simp; omega
                    have q2 : (((d.n : Int) % 16) == 0) = true := by simp; omega
                    have q2b : (((d.n : Int) % 16) != 0) = false := by simp; omega
                    have q3 : decide ((1024 : Int) < (d.n : Int)) = false := decide_eq_false (by omega)
                    have q4 : (S0.size : Int) < (d.a : Int) := by omega
                    clear hbad c2
                    go_wp2_with (rw [HW1.out])
                    try rw [hD]
                    go_wp2_with fail
                    go_quiet ((go_at_call 40; exact Calls.quiet_of_same ((HM.out _).mono fun _ _ hh => hh)))
                    have hb1 := below_drewN C1.out.b nq
                    have kres := C1.out.res.same (w' := W1.drewN nq) rfl
                    obtain ⟨W2, hW2⟩ : ∃ W2, W1.drewN nq = W2 := ⟨_, rfl⟩
                    rw [hW2] at hb1 kres ⊢
                    clear hW2 d0 d1 d2 d3 p0 m0 lt1 lt2 lt3 r0 r1 r2 r3
                    have y0 := kres.cell 0
                    have y1 := kres.cell 1
                    have y2 := kres.cell 2
                    have y3 := kres.frozen 0
                    have y4 := kres.frozen 1
                    have y5 := kres.frozen 2
                    have y6 := kres.lt
                    simp only [List.getElem?_toArray, List.getElem?_cons_zero, List.getElem?_cons_succ] at  y0 y1 y2
                    have HZ := Lib.hid (put3B hb1 kres (Nat.le_refl _) (.int .i64 0) (.int .i64 0) (.slice none 0 0))
                    go_wp2_with fail
                    obtain rfl : none = V := by rw [← HV.out]; exact (chain_none2 HVR.out (by rw [HD.out]; exact Hnm.out)).symm
                    exact bodyPost_ret (v := .tuple #[.agg #[.int .i64 0, .int .i64 0, .slice none 0 0], .bool false]) (chain_results _ _ _ w.heap.size false rfl rfl rfl _ _ _ HZ.out.2) rfl ⟨HZ.out.1, 0, 0, none, 0, 0, rfl⟩

                  · by_cases c5 : d.a + d.n ≤ xs.length
                    · have q1 : (((d.n : Nat) : Int) == 0) = false := by simp; omega
                      have q2 : (((d.n : Int) % 16) == 0) = true := by simp; omega
                      have q2b : (((d.n : Int) % 16) != 0) = false := by simp; omega
                      have q3 : decide ((1024 : Int) < (d.n : Int)) = false := decide_eq_false (by omega)
                      have q4 : decide ((S0.size : Int) < (d.a : Int)) = false := decide_eq_false (by omega)
                      have v3 : IntKind.i64.wrap (d.a : Int) = (d.a : Int) := by rw [IntKind.wrap_i64]; omega
                      have hmb : mayB xs (d.a : Int) (d.n : Int) = true := by unfold mayB; exact decide_eq_true (by omega)
                      rw [hmb] at HM
                      clear hmb
                      obtain ⟨T, hT⟩ : ∃ T, d.n = 16 * T := ⟨d.n / 16, by omega⟩
                      have Hnm := Lib.hid (name_tab H4.out ⟨by omega, c2, by omega, c5⟩ T hT)
                      have hT64 : T ≤ 64 := by omega
                      have HT := Lib.hid hT
                      have HVC : Hid (∀ P, partsGo xs (tabP xs d.a T) false = P → chainV xs q = P.map fun p => ⟨lastId l, l.length, p⟩) := Lib.hid (fun P hP => by rw [← hP]; exact chain_of HVR.out (by rw [HD.out]; exact Hnm.out))
                      have hdal : d.a + 16 * T ≤ xs.length := by omega
                      clear c2 hT Hnm
                      go_wp2_with (rw [HW1.out])
                      try rw [hD]
                      go_wp2_with fail
                      go_quiet ((go_at_call 40; exact Calls.quiet_of_same ((HM.out _).mono fun _ _ hh => hh)))
                      have C2 := C1.out.next (below_drewN (Below.refl W1.heap.size W1) nq)
                      have k2 := KD.out.same (w' := W1.drewN nq) rfl
                      obtain ⟨W2, hW2⟩ : ∃ W2, W1.drewN nq = W2 := ⟨_, rfl⟩
                      rw [hW2] at C2 k2 ⊢
                      clear hW2 d0 d1 d2 d3 p0 m0 lt1 lt2 lt3 r0 r1 r2 r3 HM C1 KD q1 q2 q2b q3 q4
                      have T0 : TL gx gk q xs w C idv k D d (.slice (some ⟨W2.heap.size, 0, none⟩) 0 0) 0 (W2.alloc (.cells #[] 35)) :=
                        ⟨C2.rq, ba C2.b _, empty_row W2 w.heap.size 35 4 C2.b.size, C2.res.alloc _, C2.c.alloc _, C2.ge, k2.alloc _, fun g hg => by
                          have : W2.heap.size = g := by simpa [Value.ownBlock] using hg
                          have := k2.lt; omega⟩
                      have T0 := Lib.hid T0
                      clear C2 k2
                      go_wp2_with fail
                      generalize W2.heap.size = E0 at T0 ⊢
                      go_loopw [4, 10] (fun s iv wr => ∃ k2 j2 : Nat, k2 ≤ T ∧ Hid (j2 = 16 * k2) ∧ iv = .int .i64 (j2 : Int) ∧ anyB (tabP xs d.a k2) = false ∧ TL gx gk q xs w C idv k D d s k2 wr) (fun s _ _ => T - lenV s)
                      case atStart => exact ⟨0, 0, Nat.zero_le _, rfl, rfl, rfl, T0.out⟩
                      case round =>
                        obtain ⟨k2, j2, hk2, hj2, rfl, hb, CC⟩ := hrel
                        clear T0
                        obtain ⟨A2, cap2, rfl⟩ := own_form CC.own
                        have d0 := CC.d.cell 0
                        have d1 := CC.d.cell 1
                        simp only [List.getElem?_toArray, List.getElem?_cons_zero, List.getElem?_cons_succ] at d0 d1
                        have ltD := CC.d.lt
                        by_cases hkT : k2 < T
                        · have hjn : (j2 : Int) < (d.n : Int) := by have := hj2.out; have := HT.out; omega
                          obtain ⟨p, hp⟩ : ∃ p, d.a + 16 * k2 = p := ⟨_, rfl⟩
                          have e5 : (d.a : Int) + (j2 : Int) = (p : Int) := by have := hj2.out; omega
                          have HX := fun W (h : Rq gx gk q xs W) => rat_any h p (by omega)
                          have hok := deAt_ok xs p (by omega)
                          obtain ⟨x, hx⟩ : ∃ x, deAt xs p = x := ⟨_, rfl⟩
                          rw [hx] at HX hok
                          have hx2 := hx
                          rw [← hp] at hx2
                          obtain ⟨b4, hb4⟩ : ∃ b4, x.bit 4 = b4 := ⟨_, rfl⟩
                          have HB4 := fun W => rbit_any x hok 4 (.inr rfl) b4 hb4 W
                          unfold De.v at HX HB4
                          have HX := Lib.hid HX
                          have HB4 := Lib.hid HB4
                          have Hx2 := Lib.hid hx2
                          have Hb4 := Lib.hid hb4
                          have HC := Lib.hid CC
                          have Hb := Lib.hid hb
                          have hj3 : j2 ≤ 1024 := by have := hj2.out; omega
                          clear hx hx2 hb4 CC hb hp hok
                          go_wp2_with fail
                          refine (HX.out _ HC.out.r).mono ?_
                          rintro e w3 ⟨rfl, hq⟩
                          have C3 := (HC.out.next hq).next (ba (Below.refl w3.heap.size w3) (.cells #[.int .u64 (x.a : Int), .int .u32 (x.n : Int), .int .i64 (x.id : Int), .int .i64 (x.f : Int)] 35))
                          have k3 := Blk.new w3 35 #[.int .u64 (x.a : Int), .int .u32 (x.n : Int), .int .i64 (x.id : Int), .int .i64 (x.f : Int)]
                          obtain ⟨W3, hW3⟩ : ∃ W3, w3.alloc (.cells #[.int .u64 (x.a : Int), .int .u32 (x.n : Int), .int .i64 (x.id : Int), .int .i64 (x.f : Int)] 35) = W3 := ⟨_, rfl⟩
                          obtain ⟨X, hX⟩ : ∃ X, w3.heap.size = X := ⟨_, rfl⟩
                          rw [hW3] at C3 k3
                          rw [hX] at k3
                          have HW3 := Lib.hid hW3
                          have x0 := k3.cell 0
                          have x1 := k3.cell 1
                          have x2 := k3.cell 2
                          have x3 := k3.cell 3
                          simp only [List.getElem?_toArray, List.getElem?_cons_zero, List.getElem?_cons_succ] at x0 x1 x2 x3
                          have ltX := k3.lt
                          have HC3 := Lib.hid C3
                          have HK3 := Lib.hid k3
                          clear d0 d1 ltD hq HC HX C3 k3 hW3
                          go_wp2_with (rw [HW3.out])
                          try rw [hX]
                          go_wp2_with fail
                          refine (HB4.out _).mono ?_
                          rintro e w4 ⟨rfl, hq⟩
                          have C4 := HC3.out.next hq
                          have k4 := HK3.out.same (hq.block _ HK3.out.lt)
                          clear x0 x1 x2 x3 ltX hq HC3 HK3 hX
                          cases b4 with
                          | true =>
                            have kres := C4.res
                            have hb1 := C4.b
                            have HVn : none = V := by
                              rw [← HV.out, HVC.out none (parts_any4 (anyB_tab hkT (by rw [Hx2.out]; exact Hb4.out)))]; rfl
                            have HVn := Lib.hid HVn
                            have y0 := kres.cell 0
                            have y1 := kres.cell 1
                            have y2 := kres.cell 2
                            have y3 := kres.frozen 0
                            have y4 := kres.frozen 1
                            have y5 := kres.frozen 2
                            have y6 := kres.lt
                            simp only [List.getElem?_toArray, List.getElem?_cons_zero, List.getElem?_cons_succ] at  y0 y1 y2
                            have HZ := Lib.hid (put3B hb1 kres (Nat.le_refl _) (.int .i64 0) (.int .i64 0) (.slice none 0 0))
                            go_wp2_with fail
                            obtain rfl : none = V := HVn.out
                            exact bodyPost_ret (v := .tuple #[.agg #[.int .i64 0, .int .i64 0, .slice none 0 0], .bool false]) (chain_results _ _ _ w.heap.size false rfl rfl rfl _ _ _ HZ.out.2) rfl ⟨HZ.out.1, 0, 0, none, 0, 0, rfl⟩

                          | false =>
                            have x0 := k4.cell 0
                            have x1 := k4.cell 1
                            have x2 := k4.cell 2
                            have x3 := k4.cell 3
                            simp only [List.getElem?_toArray, List.getElem?_cons_zero, List.getElem?_cons_succ] at x0 x1 x2 x3
                            have ltX := k4.lt
                            have C5 := Lib.hid (C4.next (ba (Below.refl w4.heap.size w4) (.cells #[.int .u64 (x.a : Int), .int .u32 (x.n : Int), .int .i64 (x.id : Int), .int .i64 (x.f : Int)] 35)))
                            have O5 := Lib.hid C5.out.own
                            have HWn := Lib.hid (World.news_of_block (w := w4.alloc (.cells #[.int .u64 (x.a : Int), .int .u32 (x.n : Int), .int .i64 (x.id : Int), .int .i64 (x.f : Int)] 35)) (heap_alloc_new w4 _))
                            have hbase := C5.out.b.size
                            have hDl := Lib.hid C4.d.lt
                            clear C4 k4
                            go_wp2_with (at_builtin; refine wpList_append_lies _ rfl (.tmp 117) (.tmp 119) 118 rfl w.heap.size 35 i0 _ 4 32 Try.underlying118 HI.out HZ0.out HZ1.out HZ2.out rfl (by decide) (.slice A2 k2 cap2) k2 (desCells (tabP xs d.a k2)) rfl O5.out ⟨w4.heap.size, 0, none⟩ 1 1 (De.cells x) rfl rfl HWn.out (des_one x) (by decide) (by unfold maxLen; omega) (by omega) hbase (w4.heap.size + 1) (by simp) ?_; intro g2 cap3 w6 hown hgrow hat hlt2; have R6 := Lib.hid (C5.out.grown (s' := .slice (some ⟨g2, 0, none⟩) (k2 + 1) cap3) Hx2.out hown hgrow (off_next C5.out.off hat (by have := hDl.out; omega))); clear hown hgrow hat hlt2)
                            go_roundw
                            case rel => exact ⟨k2 + 1, j2 + 16, by omega, by show _ = _; have := hj2.out; omega, by go_num, by rw [tabP_succ, anyB_snoc, Hb.out, Hx2.out, Hb4.out]; rfl, R6.out⟩
                            case measure => simp [lenV]; omega
                        · have hjn : ¬ (j2 : Int) < (d.n : Int) := by have := hj2.out; have := HT.out; omega
                          obtain rfl : k2 = T := by omega
                          have hpre : ∀ x ∈ tabP xs d.a k2, x.Ok ∧ x.bit 4 = false := fun x hx => ⟨by
                            unfold tabP at hx
                            obtain ⟨i, hi, rfl⟩ := List.mem_map.1 hx
                            have := List.mem_range.1 hi
                            exact deAt_ok xs _ (by omega), by
                            have := List.any_eq_false.1 hb x hx
                            simpa using this⟩
                          have row3 : wr.ownsRow 0 35 4 (.slice A2 (tabP xs d.a k2).length cap2) (tabP xs d.a k2).length (desCells (tabP xs d.a k2)) := by rw [tabP_length]; exact own_base CC.own (Nat.zero_le _)
                          have HTL := Lib.hid (tabP_length xs d.a k2)
                          go_wp2_with fail
                          have HPt := rparts_any CC.r (tabP xs d.a k2) hpre (by rw [HTL.out]; exact hT64) A2 cap2 row3
                          rw [HTL.out] at HPt
                          refine HPt.mono ?_
                          rintro e w5 ⟨hq5, hm⟩
                          have c5 := CC.c.same (hq5.block _ CC.c.lt)
                          have r5 := CC.res.same (hq5.block _ CC.res.lt)
                          have b5 := b0 CC.b hq5
                          have hge := CC.ge
                          obtain ⟨VP, hVP⟩ : ∃ VP, partsGo xs (tabP xs d.a k2) false = VP := ⟨_, rfl⟩
                          rw [hVP] at hm
                          have y0 := c5.cell 0
                          have y1 := c5.cell 1
                          have y2 := c5.cell 2
                          have x0 := r5.cell 0
                          have x1 := r5.cell 1
                          have x2 := r5.cell 2
                          simp only [List.getElem?_toArray, List.getElem?_cons_zero, List.getElem?_cons_succ] at  y0 y1 y2 x0 x1 x2
                          have y3 := c5.frozen 0
                          have y4 := c5.frozen 1
                          have y5 := c5.frozen 2
                          have x3 := r5.frozen 0
                          have x4 := r5.frozen 1
                          have x5 := r5.frozen 2
                          have y6 := c5.lt
                          have x6 := r5.lt
                          have hCne : ¬ C = w.heap.size := by omega
                          cases VP with
                          | none =>
                            obtain rfl := hm
                            obtain rfl : none = V := by rw [← HV.out, HVC.out _ rfl, hVP]; rfl
                            have b6 := b5.setCell (p := ⟨C, 2, none⟩) (Nat.le_of_lt hge) (.slice none 0 0)
                            have r6 := r5.other (k := C) (Nat.ne_of_lt hge) 2 (.slice none 0 0)
                            have HZ := Lib.hid (put3B b6 r6 (Nat.le_refl _) (.int .i64 (idv : Int)) (.int .i64 (k : Int)) (.slice none 0 0))
                            clear c5 r5 b5 b6 r6 hq5 hVP CC
                            go_wp2_with fail
                            exact bodyPost_ret (v := .tuple #[.agg #[.int .i64 (idv : Int), .int .i64 (k : Int), .slice none 0 0], .bool false]) (chain_results _ _ _ w.heap.size false rfl rfl rfl _ _ _ HZ.out.2) rfl ⟨HZ.out.1, idv, k, none, 0, 0, rfl⟩
                          | some pts =>
                            obtain ⟨Ap, capp, rfl, ownp⟩ := hm
                            obtain rfl : some ⟨idv, k, pts⟩ = V := by rw [← HV.out, HVC.out _ rfl, hVP, HID.out, HN.out]; rfl
                            have b6 := b5.setCell (p := ⟨C, 2, none⟩) (Nat.le_of_lt hge) (.slice Ap pts.length capp)
                            have r6 := r5.other (k := C) (Nat.ne_of_lt hge) 2 (.slice Ap pts.length capp)
                            have HZ := Lib.hid (put3B b6 r6 (Nat.le_refl _) (.int .i64 (idv : Int)) (.int .i64 (k : Int)) (.slice Ap pts.length capp))
                            have o6 := own_put ownp (k := C) (fun g hg e => own_ne ownp c5 (by decide) (e ▸ hg)) 2 (.slice Ap pts.length capp)
                            have hne : ∀ g, (Value.slice Ap pts.length capp).ownBlock = some g → g ≠ w.heap.size := fun g hg e => own_ne ownp r5 (by decide) (e ▸ hg)
                            have HO6 := Lib.hid (own_base (own_put (own_put (own_put o6 hne 0 (.int .i64 (idv : Int))) hne 1 (.int .i64 (k : Int))) hne 2 (.slice Ap pts.length capp)) CC.b.size)
                            clear c5 r5 b5 b6 r6 hq5 hVP CC o6 hne ownp
                            go_wp2_with fail
                            exact bodyPost_ret (v := .tuple #[.agg #[.int .i64 (idv : Int), .int .i64 (k : Int), .slice Ap pts.length capp], .bool true]) (chain_results _ _ _ w.heap.size true rfl rfl rfl _ _ _ HZ.out.2) rfl ⟨HZ.out.1, Ap, capp, rfl, HO6.out⟩

                    · have hbad : ¬ (0 < d.n ∧ d.n % 16 = 0 ∧ d.n ≤ 1024 ∧ d.a + d.n ≤ xs.length) := by omega
                      have Hnm := Lib.hid (name_bad H4.out hbad)
                      have q1 : (((d.n : Nat) : Int) == 0) = false := by simp; omega
                      have q2 : (((d.n : Int) % 16) == 0) = true := by simp; omega
                      have q2b : (((d.n : Int) % 16) != 0) = false := by simp; omega
                      have q3 : decide ((1024 : Int) < (d.n : Int)) = false := decide_eq_false (by omega)
                      have q4 : decide ((S0.size : Int) < (d.a : Int)) = false := decide_eq_false (by omega)
                      have v3 : IntKind.i64.wrap (d.a : Int) = (d.a : Int) := by rw [IntKind.wrap_i64]; omega
                      have hmb : mayB xs (d.a : Int) (d.n : Int) = false := by unfold mayB; exact decide_eq_false (by omega)
                      rw [hmb] at HM
                      clear hmb
                      clear hbad c2
                      go_wp2_with (rw [HW1.out])
                      try rw [hD]
                      go_wp2_with fail
                      go_quiet ((go_at_call 40; exact Calls.quiet_of_same ((HM.out _).mono fun _ _ hh => hh)))
                      have hb1 := below_drewN C1.out.b nq
                      have kres := C1.out.res.same (w' := W1.drewN nq) rfl
                      obtain ⟨W2, hW2⟩ : ∃ W2, W1.drewN nq = W2 := ⟨_, rfl⟩
                      rw [hW2] at hb1 kres ⊢
                      clear hW2 d0 d1 d2 d3 p0 m0 lt1 lt2 lt3 r0 r1 r2 r3
                      have y0 := kres.cell 0
                      have y1 := kres.cell 1
                      have y2 := kres.cell 2
                      have y3 := kres.frozen 0
                      have y4 := kres.frozen 1
                      have y5 := kres.frozen 2
                      have y6 := kres.lt
                      simp only [List.getElem?_toArray, List.getElem?_cons_zero, List.getElem?_cons_succ] at  y0 y1 y2
                      have HZ := Lib.hid (put3B hb1 kres (Nat.le_refl _) (.int .i64 0) (.int .i64 0) (.slice none 0 0))
                      go_wp2_with fail
                      obtain rfl : none = V := by rw [← HV.out]; exact (chain_none2 HVR.out (by rw [HD.out]; exact Hnm.out)).symm
                      exact bodyPost_ret (v := .tuple #[.agg #[.int .i64 0, .int .i64 0, .slice none 0 0], .bool false]) (chain_results _ _ _ w.heap.size false rfl rfl rfl _ _ _ HZ.out.2) rfl ⟨HZ.out.1, 0, 0, none, 0, 0, rfl⟩

              · have hbad : ¬ (0 < d.n ∧ d.n % 16 = 0 ∧ d.n ≤ 1024 ∧ d.a + d.n ≤ xs.length) := by omega
                have Hnm := Lib.hid (name_bad H4.out hbad)
                have q1 : (((d.n : Nat) : Int) == 0) = false := by simp; omega
                have q2 : (((d.n : Int) % 16) == 0) = false := by simp; omega
                have q2b : (((d.n : Int) % 16) != 0) = true := by simp; omega
                clear hbad
                go_wp2_with (rw [HW1.out])
                try rw [hD]
                go_wp2_with fail
                go_quiet ((go_at_call 40; exact Calls.quiet_of_same ((HM.out _).mono fun _ _ hh => hh)))
                have hb1 := below_drewN C1.out.b nq
                have kres := C1.out.res.same (w' := W1.drewN nq) rfl
                obtain ⟨W2, hW2⟩ : ∃ W2, W1.drewN nq = W2 := ⟨_, rfl⟩
                rw [hW2] at hb1 kres ⊢
                clear hW2 d0 d1 d2 d3 p0 m0 lt1 lt2 lt3 r0 r1 r2 r3
                have y0 := kres.cell 0
                have y1 := kres.cell 1
                have y2 := kres.cell 2
                have y3 := kres.frozen 0
                have y4 := kres.frozen 1
                have y5 := kres.frozen 2
                have y6 := kres.lt
                simp only [List.getElem?_toArray, List.getElem?_cons_zero, List.getElem?_cons_succ] at  y0 y1 y2
                have HZ := Lib.hid (put3B hb1 kres (Nat.le_refl _) (.int .i64 0) (.int .i64 0) (.slice none 0 0))
                go_wp2_with fail
                obtain rfl : none = V := by rw [← HV.out]; exact (chain_none2 HVR.out (by rw [HD.out]; exact Hnm.out)).symm
                exact bodyPost_ret (v := .tuple #[.agg #[.int .i64 0, .int .i64 0, .slice none 0 0], .bool false]) (chain_results _ _ _ w.heap.size false rfl rfl rfl _ _ _ HZ.out.2) rfl ⟨HZ.out.1, 0, 0, none, 0, 0, rfl⟩

end Go.Proofs.Ytoblemgeacllkaa
namespace Go.Proofs.Ytoblemgeacllkaa
open Go.RowKit

/-- the document's queue and memory behind their pointers -/
structure Od (B gx gk : Nat) (lv : Value) (xs : List UInt8) (lg : List Acc) (q : Qs) (w : World) : Prop where
  hx : B ≤ gx
  blk : Blk w gx 48 (q.cellsR gk)
  mem : Mr B gk lv xs lg w
/-- what a call on it leaves: it, its numbers, its bytes; nothing else that was there has turned -/
structure Ro (B gx gk : Nat) (lv : Value) (q' : Qs) (xs' : List UInt8) (lg' : List Acc) (w w' : World) : Prop where
  blk : Blk w' gx 48 (q'.cellsR gk)
  mem : ∃ lv1, Mr B gk lv1 xs' lg' w' ∧ ∀ k, lv1.ownBlock = some k → lv.ownBlock = some k ∨ w.heap.size ≤ k
  os : w'.os = w.os
  tape : w'.tape = w.tape
  output : w'.output = w.output
  size : w.heap.size ≤ w'.heap.size
  block : ∀ k, k < w.heap.size → k ≠ gx → k ≠ gk → w'.heap[k]? = w.heap[k]?
section
variable {B gx gk : Nat} {lv : Value} {xs xs' : List UInt8} {lg lg' : List Acc} {q q' : Qs} {w w1 w' : World}
theorem Od.rq (h : Od B gx gk lv xs lg q w) : Rq gx gk q xs w := ⟨h.blk, B, lv, lg, h.mem⟩
theorem Ro.refl (h : Od B gx gk lv xs lg q w) : Ro B gx gk lv q xs lg w w := ⟨h.blk, ⟨lv, h.mem, fun _ hk => .inl hk⟩, rfl, rfl, rfl, Nat.le_refl _, fun _ _ _ _ => rfl⟩
theorem Ro.below (h : Ro B gx gk lv q' xs' lg' w w1) (hq : Below w1.heap.size w1 w') : Ro B gx gk lv q' xs' lg' w w' := by
  obtain ⟨lv1, hM, hL⟩ := h.mem
  exact ⟨h.blk.same (hq.block _ h.blk.lt), ⟨lv1, hM.below hq, hL⟩, hq.os.trans h.os, hq.tape.trans h.tape, hq.output.trans h.output, Nat.le_trans h.size hq.size, fun k hk x a => (hq.block k (by have := h.size; omega)).trans (h.block k hk x a)⟩
theorem Ro.rq (h : Ro B gx gk lv q' xs' lg' w w1) : Rq gx gk q' xs' w1 := by
  obtain ⟨lv1, hM, hL⟩ := h.mem
  exact ⟨h.blk, B, lv1, lg', hM⟩
/-- a store into a variable of the call's own -/
theorem Ro.put (h : Ro B gx gk lv q' xs' lg' w w1) {k : Nat} {t : TypeId} {cs : Array Value} (hk : Blk w1 k t cs) (hE : w.heap.size ≤ k) (a : t ≠ 48) (b : t ≠ 66) (c : t ≠ 111) (i : Nat) (u : Value) : Ro B gx gk lv q' xs' lg' w (w1.setCell ⟨k, i, none⟩ u) := by
  obtain ⟨lv1, hM, hL⟩ := h.mem
  obtain ⟨ag, hb⟩ := hM.blk
  have o : ∀ j, j ≠ k → (w1.setCell ⟨k, i, none⟩ u).heap[j]? = w1.heap[j]? := fun j hj => Below.heap_setCell w1 _ u j hj
  exact ⟨h.blk.other (fun x => hk.ne h.blk a x.symm) i u, ⟨lv1, hM.kept (o _ (fun x => hk.ne hb b x.symm)) (fun j hj => o j (fun x => own_ne hM.log hk (fun y => c y.symm) (x ▸ hj))), hL⟩, h.os, h.tape, h.output, by simpa [World.setCell] using h.size, fun j hj x y => (o j (by omega)).trans (h.block j hj x y)⟩
/-- a store into the queue itself -/
theorem Ro.set (h : Ro B gx gk lv q' xs' lg' w w1) (i : Nat) (u : Value) {q2 : Qs} (hc : (q'.cellsR gk).setIfInBounds i u = q2.cellsR gk) : Ro B gx gk lv q2 xs' lg' w (w1.setCell ⟨gx, i, none⟩ u) := by
  obtain ⟨lv1, hM, hL⟩ := h.mem
  obtain ⟨ag, hb⟩ := hM.blk
  have o : ∀ j, j ≠ gx → (w1.setCell ⟨gx, i, none⟩ u).heap[j]? = w1.heap[j]? := fun j hj => Below.heap_setCell w1 _ u j hj
  exact ⟨by rw [← hc]; exact h.blk.put i u, ⟨lv1, hM.kept (o _ (fun x => h.blk.ne hb (by decide) x.symm)) (fun j hj => o j (fun x => own_ne hM.log h.blk (by decide) (x ▸ hj))), hL⟩, h.os, h.tape, h.output, by simpa [World.setCell] using h.size, fun j hj x y => (o j x).trans (h.block j hj x y)⟩
theorem Ro.put3 (h : Ro B gx gk lv q' xs' lg' w w1) {k : Nat} {a0 a1 a2 : Value} (hk : Blk w1 k 51 #[a0, a1, a2]) (hE : w.heap.size ≤ k) (b0 b1 b2 : Value) :
    Ro B gx gk lv q' xs' lg' w (((w1.setCell ⟨k, 0, none⟩ b0).setCell ⟨k, 1, none⟩ b1).setCell ⟨k, 2, none⟩ b2) ∧ Blk (((w1.setCell ⟨k, 0, none⟩ b0).setCell ⟨k, 1, none⟩ b1).setCell ⟨k, 2, none⟩ b2) k 51 #[b0, b1, b2] := by
  have k1 := hk.put 0 b0
  have k2 := k1.put 1 b1
  have k3 := k2.put 2 b2
  exact ⟨((h.put hk hE (by decide) (by decide) (by decide) 0 b0).put k1 hE (by decide) (by decide) (by decide) 1 b1).put k2 hE (by decide) (by decide) (by decide) 2 b2, by simpa using k3⟩
end
theorem Blk.drew1 {w : World} {k : Nat} {t : TypeId} {a b c : Value} (h : Blk w k t #[a, b, c]) : w.drew.cell? ⟨k, 1, none⟩ = some b := h.cell 1
theorem Blk.drewN {w : World} {k : Nat} {t : TypeId} {cs : Array Value} (h : Blk w k t cs) : Blk w.drew k t cs := h
theorem Ro.below0 {B gx gk : Nat} {lv : Value} {xs' : List UInt8} {lg' : List Acc} {q' : Qs} {w w1 : World} (h : Ro B gx gk lv q' xs' lg' w w1) : Ro B gx gk lv q' xs' lg' w w1.drew := h.below (Below.refl _ _).drew
/-- Next's answer -/
def RnP (B gx gk : Nat) (lv : Value) (xs : List UInt8) (lg : List Acc) (w : World) (r : Ch × Bool × Int × Qs) (e : Ending) (w' : World) : Prop :=
  ∃ A cap, e = .returned (.tuple #[.agg #[.int .i64 (r.1.id : Int), .int .i64 (r.1.count : Int), .slice A r.1.parts.length cap], .bool r.2.1, .int .i64 r.2.2.1]) ∧ w'.ownsRow w.heap.size 56 3 (.slice A r.1.parts.length cap) r.1.parts.length (ptCells r.1.parts) ∧ Ro B gx gk lv r.2.2.2 xs lg w w'
theorem three_next12 (f : Func) (w : World) (tmps : Array Value) (gf : Nat) (is : Bool) (er : Int) (hf : f.results = Try.f12.results) (h2 : tmps[2]?.getD undef = .pointer (some ⟨gf, 0, none⟩)) (h3 : tmps[3]?.getD undef = .bool is) (h4 : tmps[4]?.getD undef = .int .i64 er) (a b c : Value)
    (hF : Blk w gf 51 #[a, b, c]) : (results f tmps).run Try.prog w = .ok (.tuple #[.agg #[a, b, c], .bool is, .int .i64 er]) w := by
  have c0 := hF.cell 0
  have c1 := hF.cell 1
  have c2 := hF.cell 2
  simp only [List.getElem?_toArray, List.getElem?_cons_zero, List.getElem?_cons_succ] at c0 c1 c2
  simp [results, hf, Try.results12, go_sem, h2, h3, h4, c0, c1, c2]
theorem field_f (a n i f : Int) (W : World) : (Instr.field 35 (.agg #[.int .u64 a, .int .u32 n, .int .i64 i, .int .i64 f]) 3).run Try.prog W = .ok (.int .i64 f) W := by
  first | kernel_rfl | rfl
def nextR (q : Qs) : Option Ch → Ch × Bool × Int × Qs
  | none => (noCh, false, 141, { q with broken := true })
  | some c => (c, true, 0, { q with na := stA q.size q.na c.count, nw := stW q.size q.na c.count q.nw, out := q.out + c.count })
theorem nextC_take {xs : List UInt8} {q : Qs} (hb : q.broken = false) (ho : ¬ q.out = q.size) (ha : availB (deAt xs (q.ring + 16 * q.na)).f q.nw = true) : nextC xs q = nextR q (chainV xs q) := by
  unfold nextC
  rw [if_neg (by simp [hb]), if_neg ho, ha, if_pos rfl]
  cases chainV xs q <;> rfl
/-- Next's class of worlds: its result, all else as it was -/
def NC (gx gk : Nat) (q : Qs) (xs : List UInt8) (w W0 W : World) : Prop := Rq gx gk q xs W ∧ Below w.heap.size w W ∧ Blk W w.heap.size 51 #[.int .i64 0, .int .i64 0, .slice none 0 0] ∧ Below W0.heap.size W0 W
theorem NC.next {gx gk : Nat} {q : Qs} {xs : List UInt8} {w W0 W W' : World} (h : NC gx gk q xs w W0 W) (hq : Below W.heap.size W W') : NC gx gk q xs w W0 W' := ⟨h.1.below hq, b0 h.2.1 hq, h.2.2.1.same (hq.block _ h.2.2.1.lt), b0 h.2.2.2 hq⟩
theorem NC.rq {gx gk : Nat} {q : Qs} {xs : List UInt8} {w W0 W : World} (h : NC gx gk q xs w W0 W) : Rq gx gk q xs W := h.1
theorem NC.cells {gx gk : Nat} {q : Qs} {xs : List UInt8} {w W0 W : World} (h : NC gx gk q xs w W0 W) : W.cell? ⟨gx, 12, none⟩ = some (.int .i64 (q.out : Int)) ∧ W.cell? ⟨gx, 2, none⟩ = some (.int .i64 (q.size : Int)) ∧ W.cell? ⟨gx, 1, none⟩ = some (.int .i64 (q.ring : Int)) ∧ W.cell? ⟨gx, 5, none⟩ = some (.int .i64 (q.na : Int)) ∧ W.cell? ⟨gx, 6, none⟩ = some (.bool q.nw) :=
  ⟨h.1.blk.cell 12, h.1.blk.cell 2, h.1.blk.cell 1, h.1.blk.cell 5, h.1.blk.cell 6⟩
set_option maxRecDepth 100000 in
set_option maxHeartbeats 12800000 in
theorem rnextQ_any {B gx gk : Nat} {lv : Value} {xs : List UInt8} {lg : List Acc} {q : Qs} {w : World} (h : Od B gx gk lv xs lg q w) (hq : q.Ok xs.length) :
    Calls Try.prog 12 #[.pointer (some ⟨gx, 0, none⟩)] w (RnP B gx gk lv xs lg w (nextC xs q)) := by
  have HR0 := Lib.hid (Ro.refl h)
  have p13 : w.cell? ⟨gx, 13, none⟩ = some (.bool q.broken) := h.blk.cell 13
  have hlt := h.blk.lt
  have hne := Nat.ne_of_lt hlt
  have hlx := h.mem.len
  obtain ⟨r, hr⟩ : ∃ r, nextC xs q = r := ⟨_, rfl⟩
  rw [hr]
  have HRes := Lib.hid hr
  have HQ := Lib.hid hq
  have HO := Lib.hid h
  cases hb : q.broken with
  | true =>
    rw [hb] at p13
    obtain rfl : (noCh, false, 141, q) = r := by rw [← hr]; unfold nextC; rw [if_pos hb]
    have kres := Blk.new w 51 #[.int .i64 0, .int .i64 0, .slice none 0 0]
    have R1 := (HR0.out).below (ba (Below.refl w.heap.size w) (.cells #[.int .i64 0, .int .i64 0, .slice none 0 0] 51))
    clear h hq hr hb
    go_enter Try.func12, Try.ntmps12
    go_wp2_with fail
    exact bodyPost_ret (v := .tuple #[.agg #[.int .i64 0, .int .i64 0, .slice none 0 0], .bool false, .int .i64 141]) (three_next12 _ _ _ w.heap.size false 141 rfl rfl rfl rfl _ _ _ kres) rfl ⟨none, 0, rfl, World.ownsRow_nil _ _ _ _, R1⟩
  | false =>
    rw [hb] at p13
    have hNC : NC gx gk q xs w (w.alloc (.cells #[.int .i64 0, .int .i64 0, .slice none 0 0] 51)) (w.alloc (.cells #[.int .i64 0, .int .i64 0, .slice none 0 0] 51)).drew :=
      ⟨(h.rq.below (ba (Below.refl _ _) _)).below (Below.refl _ _).drew, (ba (Below.refl _ _) _).drew, (Blk.new w 51 _).drew, (Below.refl _ _).drew⟩
    have HNC := Lib.hid hNC
    have hr1 := hq.r
    have hs1 := hq.na
    have hs2 := hq.s2
    obtain ⟨b, hb0, e1⟩ : ∃ b : Nat, 16 * q.na = b ∧ (16 : Int) * (q.na : Int) = (b : Int) := ⟨_, rfl, by omega⟩
    obtain ⟨n, hn0, e2⟩ : ∃ n : Nat, q.ring + 16 * q.na = n ∧ (q.ring : Int) + (b : Int) = (n : Int) := ⟨_, rfl, by omega⟩
    have v1 : IntKind.i64.wrap (b : Int) = (b : Int) := by rw [IntKind.wrap_i64]; omega
    have v2 : IntKind.i64.wrap (n : Int) = (n : Int) := by rw [IntKind.wrap_i64]; omega
    have HX := fun W (h : Rq gx gk q xs W) => rat_any h n (by omega)
    have hdok := deAt_ok xs n (by omega)
    obtain ⟨d, hd⟩ : ∃ d, deAt xs n = d := ⟨_, rfl⟩
    rw [hd] at HX hdok
    obtain ⟨av, hav⟩ : ∃ av, availB d.f q.nw = av := ⟨_, rfl⟩
    have HAV := fun W => ravail_f d.f hdok.f q.nw W
    rw [hav] at HAV
    unfold De.v at HX
    have HX := Lib.hid HX
    have HAV := Lib.hid HAV
    have hAvl : availB (deAt xs (q.ring + 16 * q.na)).f q.nw = av := by rw [hn0, hd]; exact hav
    by_cases ho : q.out = q.size
    · have f1 : ((q.out : Int) == (q.size : Int)) = true := by rw [ho]; simp
      obtain rfl : (noCh, false, 0, q) = r := by rw [← hr]; unfold nextC; rw [if_neg (by simp [hb]), if_pos ho]
      clear h hq hr hb ho hNC hd hav hAvl hb0 hn0 hdok
      go_enter Try.func12, Try.ntmps12
      go_wp2_with fail
      refine region_class (NC gx gk q xs w (w.alloc (.cells #[.int .i64 0, .int .i64 0, .slice none 0 0] 51))) (by kernel_rfl) (by kernel_rfl) HNC.out ?_
      repeat (first
          | go_big_quiet_skip
          | (go_big_quiet_want; go_big_quiet_op; first
            | go_big_quiet_on
            | (refine ⟨_, fun _ _ => rfl, ?_⟩; go_big_quiet_on)
            | (apply Exists.intro; refine ⟨?_, ?_⟩; · (intro wq hC; first | (go_at_call 44; (with_reducible refine (HX.out _ hC.rq).mono ?_); exact fun e w' h => ⟨h.1, hC.next h.2⟩) | (go_at_call 43; (with_reducible refine (HAV.out _).mono ?_); exact fun e w' h => ⟨h.1, h.2 ▸ hC⟩))
               go_big_quiet_on)
            | (refine ⟨.int .i64 (q.out : Int), fun wq hC => ?_, ?_⟩; · (obtain ⟨c1, c2, c3, c4, c5⟩ := hC.cells; simp [c1]; done)
               go_big_quiet_on)
            | (refine ⟨.int .i64 (q.size : Int), fun wq hC => ?_, ?_⟩; · (obtain ⟨c1, c2, c3, c4, c5⟩ := hC.cells; simp [c2]; done)
               go_big_quiet_on)
            | (refine ⟨.int .i64 (q.ring : Int), fun wq hC => ?_, ?_⟩; · (obtain ⟨c1, c2, c3, c4, c5⟩ := hC.cells; simp [c3]; done)
               go_big_quiet_on)
            | (refine ⟨.int .i64 (q.na : Int), fun wq hC => ?_, ?_⟩; · (obtain ⟨c1, c2, c3, c4, c5⟩ := hC.cells; simp [c4]; done)
               go_big_quiet_on)
            | (refine ⟨.int .i64 (d.f : Int), fun wq hC => ?_, ?_⟩; · (rw [field_f]; exact ⟨rfl, rfl⟩)
               go_big_quiet_on)
            | (refine ⟨.bool q.nw, fun wq hC => ?_, ?_⟩; · (obtain ⟨c1, c2, c3, c4, c5⟩ := hC.cells; simp [c5]; done)
               go_big_quiet_on)))
      refine wpQuiet_nil ?_
      intro w9 hN

      have kres := hN.2.2.1
      have R1 := HR0.out.below hN.2.1
      have y0 := kres.cell 0
      have y1 := kres.cell 1
      have y2 := kres.cell 2
      have y3 := kres.frozen 0
      have y4 := kres.frozen 1
      have y5 := kres.frozen 2
      have y6 := kres.lt
      simp only [List.getElem?_toArray, List.getElem?_cons_zero, List.getElem?_cons_succ] at  y0 y1 y2
      have HZ := Lib.hid (Ro.put3 R1 kres (Nat.le_refl _) (.int .i64 0) (.int .i64 0) (.slice none 0 0))
      go_wp2_with fail
      exact bodyPost_ret (v := .tuple #[.agg #[.int .i64 0, .int .i64 0, .slice none 0 0], .bool false, .int .i64 0]) (three_next12 _ _ _ w.heap.size false 0 rfl rfl rfl rfl _ _ _ HZ.out.2) rfl ⟨none, 0, rfl, World.ownsRow_nil _ _ _ _, HZ.out.1⟩

    · have f1 : ((q.out : Int) == (q.size : Int)) = false := by simp; omega
      cases av with
      | false =>
        obtain rfl : (noCh, false, 0, q) = r := by rw [← hr]; unfold nextC; rw [if_neg (by simp [hb]), if_neg ho, hAvl, if_neg (by simp)]
        clear h hq hr hb hNC hd hav hAvl hb0 hn0 hdok
        go_enter Try.func12, Try.ntmps12
        go_wp2_with fail
        refine region_class (NC gx gk q xs w (w.alloc (.cells #[.int .i64 0, .int .i64 0, .slice none 0 0] 51))) (by kernel_rfl) (by kernel_rfl) HNC.out ?_
        repeat (first
            | go_big_quiet_skip
            | (go_big_quiet_want; go_big_quiet_op; first
              | go_big_quiet_on
              | (refine ⟨_, fun _ _ => rfl, ?_⟩; go_big_quiet_on)
              | (apply Exists.intro; refine ⟨?_, ?_⟩; · (intro wq hC; first | (go_at_call 44; (with_reducible refine (HX.out _ hC.rq).mono ?_); exact fun e w' h => ⟨h.1, hC.next h.2⟩) | (go_at_call 43; (with_reducible refine (HAV.out _).mono ?_); exact fun e w' h => ⟨h.1, h.2 ▸ hC⟩))
                 go_big_quiet_on)
              | (refine ⟨.int .i64 (q.out : Int), fun wq hC => ?_, ?_⟩; · (obtain ⟨c1, c2, c3, c4, c5⟩ := hC.cells; simp [c1]; done)
                 go_big_quiet_on)
              | (refine ⟨.int .i64 (q.size : Int), fun wq hC => ?_, ?_⟩; · (obtain ⟨c1, c2, c3, c4, c5⟩ := hC.cells; simp [c2]; done)
                 go_big_quiet_on)
              | (refine ⟨.int .i64 (q.ring : Int), fun wq hC => ?_, ?_⟩; · (obtain ⟨c1, c2, c3, c4, c5⟩ := hC.cells; simp [c3]; done)
                 go_big_quiet_on)
              | (refine ⟨.int .i64 (q.na : Int), fun wq hC => ?_, ?_⟩; · (obtain ⟨c1, c2, c3, c4, c5⟩ := hC.cells; simp [c4]; done)
                 go_big_quiet_on)
              | (refine ⟨.int .i64 (d.f : Int), fun wq hC => ?_, ?_⟩; · (rw [field_f]; exact ⟨rfl, rfl⟩)
                 go_big_quiet_on)
              | (refine ⟨.bool q.nw, fun wq hC => ?_, ?_⟩; · (obtain ⟨c1, c2, c3, c4, c5⟩ := hC.cells; simp [c5]; done)
                 go_big_quiet_on)))
        refine wpQuiet_nil ?_
        intro w9 hN

        have kres := hN.2.2.1
        have R1 := HR0.out.below hN.2.1
        have y0 := kres.cell 0
        have y1 := kres.cell 1
        have y2 := kres.cell 2
        have y3 := kres.frozen 0
        have y4 := kres.frozen 1
        have y5 := kres.frozen 2
        have y6 := kres.lt
        simp only [List.getElem?_toArray, List.getElem?_cons_zero, List.getElem?_cons_succ] at  y0 y1 y2
        have HZ := Lib.hid (Ro.put3 R1 kres (Nat.le_refl _) (.int .i64 0) (.int .i64 0) (.slice none 0 0))
        go_wp2_with fail
        exact bodyPost_ret (v := .tuple #[.agg #[.int .i64 0, .int .i64 0, .slice none 0 0], .bool false, .int .i64 0]) (three_next12 _ _ _ w.heap.size false 0 rfl rfl rfl rfl _ _ _ HZ.out.2) rfl ⟨none, 0, rfl, World.ownsRow_nil _ _ _ _, HZ.out.1⟩

      | true =>
        have hout : q.out < q.size := by have := hq.out; omega
        have HCh := fun W (h : Rq gx gk q xs W) => rchain_any h hq hout
        obtain ⟨VC, hVC⟩ : ∃ VC, chainV xs q = VC := ⟨_, rfl⟩
        rw [hVC] at HCh
        have HCh := Lib.hid HCh
        have hR : nextR q VC = r := by rw [← hr, ← hVC]; exact (nextC_take hb ho hAvl).symm
        have HVC := Lib.hid hVC
        have HR := Lib.hid hR
        have HB := Lib.hid hb
        clear h hq hr hNC hd hav hAvl hb0 hn0 hdok hVC hR hb
        go_enter Try.func12, Try.ntmps12
        go_wp2_with fail
        refine region_class (NC gx gk q xs w (w.alloc (.cells #[.int .i64 0, .int .i64 0, .slice none 0 0] 51))) (by kernel_rfl) (by kernel_rfl) HNC.out ?_
        repeat (first
            | go_big_quiet_skip
            | (go_big_quiet_want; go_big_quiet_op; first
              | go_big_quiet_on
              | (refine ⟨_, fun _ _ => rfl, ?_⟩; go_big_quiet_on)
              | (apply Exists.intro; refine ⟨?_, ?_⟩; · (intro wq hC; first | (go_at_call 44; (with_reducible refine (HX.out _ hC.rq).mono ?_); exact fun e w' h => ⟨h.1, hC.next h.2⟩) | (go_at_call 43; (with_reducible refine (HAV.out _).mono ?_); exact fun e w' h => ⟨h.1, h.2 ▸ hC⟩))
                 go_big_quiet_on)
              | (refine ⟨.int .i64 (q.out : Int), fun wq hC => ?_, ?_⟩; · (obtain ⟨c1, c2, c3, c4, c5⟩ := hC.cells; simp [c1]; done)
                 go_big_quiet_on)
              | (refine ⟨.int .i64 (q.size : Int), fun wq hC => ?_, ?_⟩; · (obtain ⟨c1, c2, c3, c4, c5⟩ := hC.cells; simp [c2]; done)
                 go_big_quiet_on)
              | (refine ⟨.int .i64 (q.ring : Int), fun wq hC => ?_, ?_⟩; · (obtain ⟨c1, c2, c3, c4, c5⟩ := hC.cells; simp [c3]; done)
                 go_big_quiet_on)
              | (refine ⟨.int .i64 (q.na : Int), fun wq hC => ?_, ?_⟩; · (obtain ⟨c1, c2, c3, c4, c5⟩ := hC.cells; simp [c4]; done)
                 go_big_quiet_on)
              | (refine ⟨.int .i64 (d.f : Int), fun wq hC => ?_, ?_⟩; · (rw [field_f]; exact ⟨rfl, rfl⟩)
                 go_big_quiet_on)
              | (refine ⟨.bool q.nw, fun wq hC => ?_, ?_⟩; · (obtain ⟨c1, c2, c3, c4, c5⟩ := hC.cells; simp [c5]; done)
                 go_big_quiet_on)))
        refine wpQuiet_nil ?_
        intro w9 hN
        go_wp2_with fail
        refine (HCh.out _ hN.rq).mono ?_
        rintro e w4 ⟨hq4, hm⟩
        have hN4 := hN.next hq4
        have hw9 := hN.2.1.size
        have kres4 := hN4.2.2.1
        have R4 := HR0.out.below hN4.2.1
        clear hN hq4 p13 hne hlt e1 e2 v1 v2 f1 HX HAV HNC
        cases VC with
        | none =>
          obtain ⟨x, y, A, n9, c9, rfl⟩ := hm
          obtain rfl := HR.out
          have kres5 := kres4.alloc (.cells #[.int .i64 x, .int .i64 y, .slice A n9 c9] 51)
          have R5 := R4.below (ba (Below.refl w4.heap.size w4) (.cells #[.int .i64 x, .int .i64 y, .slice A n9 c9] 51))
          obtain ⟨W5, hW5⟩ : ∃ W5, w4.alloc (.cells #[.int .i64 x, .int .i64 y, .slice A n9 c9] 51) = W5 := ⟨_, rfl⟩
          rw [hW5] at kres5 R5
          have HW5 := Lib.hid hW5
          have g13 : W5.cell? ⟨gx, 13, none⟩ = some (.bool q.broken) := R5.blk.cell 13
          have f13 := R5.blk.frozen 13
          have ltx := R5.blk.lt
          have hgne : w.heap.size ≠ gx := fun e => by have := HO.out.blk.lt; omega
          have R6 := R5.set 13 (.bool true) (q2 := { q with broken := true }) rfl
          have kres6 := kres5.other (k := gx) hgne 13 (.bool true)
          have y0 := kres5.cell 0
          have y1 := kres5.cell 1
          have y2 := kres5.cell 2
          have y3 := kres5.frozen 0
          have y4 := kres5.frozen 1
          have y5 := kres5.frozen 2
          have y6 := kres5.lt
          simp only [List.getElem?_toArray, List.getElem?_cons_zero, List.getElem?_cons_succ] at y0 y1 y2
          have HZ := Lib.hid (Ro.put3 R6 kres6 (Nat.le_refl _) (.int .i64 0) (.int .i64 0) (.slice none 0 0))
          clear kres4 kres5 kres6 R4 R5 R6 hN4 hW5
          go_wp2_with (rw [HW5.out])
          go_wp2_with fail
          exact bodyPost_ret (v := .tuple #[.agg #[.int .i64 0, .int .i64 0, .slice none 0 0], .bool false, .int .i64 141]) (three_next12 _ _ _ w.heap.size false 141 rfl rfl rfl rfl _ _ _ HZ.out.2) rfl ⟨none, 0, rfl, World.ownsRow_nil _ _ _ _, HZ.out.1⟩
        | some c =>
          obtain ⟨A, cap, rfl, own⟩ := hm
          obtain rfl := HR.out
          obtain ⟨hc1, hc2, hc3⟩ := chain_count HQ.out hout HVC.out
          have kres5 := kres4.alloc (.cells #[.int .i64 (c.id : Int), .int .i64 (c.count : Int), .slice A c.parts.length cap] 51)
          have R5 := R4.below (ba (Below.refl w4.heap.size w4) (.cells #[.int .i64 (c.id : Int), .int .i64 (c.count : Int), .slice A c.parts.length cap] 51))
          have kC := Blk.new w4 51 #[.int .i64 (c.id : Int), .int .i64 (c.count : Int), .slice A c.parts.length cap]
          have own5 := own_base (own.alloc (.cells #[.int .i64 (c.id : Int), .int .i64 (c.count : Int), .slice A c.parts.length cap] 51)) hw9
          have hCw : w.heap.size ≤ w4.heap.size := hN4.2.1.size
          have hCx : w4.heap.size ≠ gx := fun e => by have := HO.out.blk.lt; omega
          have hCr : w.heap.size ≠ w4.heap.size := fun e => by have := kres4.lt; omega
          have hgne : w.heap.size ≠ gx := fun e => by have := HO.out.blk.lt; omega
          obtain ⟨W5, hW5⟩ : ∃ W5, w4.alloc (.cells #[.int .i64 (c.id : Int), .int .i64 (c.count : Int), .slice A c.parts.length cap] 51) = W5 := ⟨_, rfl⟩
          obtain ⟨C, hC⟩ : ∃ C, w4.heap.size = C := ⟨_, rfl⟩
          rw [hW5] at kres5 R5 kC own5
          rw [hC] at kC hCw hCx hCr
          have HW5 := Lib.hid hW5
          have HNx := fun W (h : Rq gx gk q xs W) => rafter_any h q.na c.count q.nw HQ.out.s1 HQ.out.s2 HQ.out.na (by omega)
          obtain ⟨NA, hNA⟩ : ∃ NA, stA q.size q.na c.count = NA := ⟨_, rfl⟩
          obtain ⟨NW, hNW⟩ : ∃ NW, stW q.size q.na c.count q.nw = NW := ⟨_, rfl⟩
          rw [hNA, hNW] at HNx
          have HNA := Lib.hid hNA
          have HNW := Lib.hid hNW
          have HN := Lib.hid HNx
          have R5 := Lib.hid R5
          have HK5 := Lib.hid kres5
          have HO5 := Lib.hid own5
          have gc5 : W5.cell? ⟨gx, 5, none⟩ = some (.int .i64 (q.na : Int)) := R5.out.blk.cell 5
          have gc6 : W5.cell? ⟨gx, 6, none⟩ = some (.bool q.nw) := R5.out.blk.cell 6
          have ltx := R5.out.blk.lt
          clear kres4 kres5 R4 hN4 hW5 own own5 HNx hNA hNW
          go_wp2_with (rw [HW5.out])
          try rw [hC]
          go_wp2_with fail
          refine wp_region_noPanic ?_
          refine wp_region_held_drew (S := fun W => W.cell? ⟨C, 1, none⟩ = some (.int .i64 (c.count : Int))) (by kernel_rfl) kC.drew1 (fun hHeld => ?_)
          refine wpAnyH_take (i := 0) (v := .pointer (some ⟨gx, 0, none⟩)) (by rfl) (by kernel_rfl) (by kernel_rfl) (by kernel_rfl) (by intro _ _ _ h; exact h) (Or.inl ⟨by rfl, ?_⟩) (by assumption) ?_
          · intro W hSw
            try dsimp only at hSw
            go_simp
            try with_reducible rfl
          simp only [Act.put, List.setIfInBounds_toArray]
          refine wpAnyH_take (i := 1) (v := .pointer (some ⟨gx, 0, none⟩)) (by rfl) (by kernel_rfl) (by kernel_rfl) (by kernel_rfl) (by intro _ _ _ h; exact h) (Or.inl ⟨by rfl, ?_⟩) (by assumption) ?_
          · intro W hSw
            try dsimp only at hSw
            go_simp
            try with_reducible rfl
          simp only [Act.put]
          refine wpAnyH_take (i := 2) (v := .pointer (some ⟨gx, 0, none⟩)) (by rfl) (by kernel_rfl) (by kernel_rfl) (by kernel_rfl) (by intro _ _ _ h; exact h) (Or.inl ⟨by rfl, ?_⟩) (by assumption) ?_
          · intro W hSw
            try dsimp only at hSw
            go_simp
            try with_reducible rfl
          simp only [Act.put]
          refine wpAnyH_take (i := 3) (v := .pointer (some ⟨gx, 0, none⟩)) (by rfl) (by kernel_rfl) (by kernel_rfl) (by kernel_rfl) (by intro _ _ _ h; exact h) (Or.inl ⟨by rfl, ?_⟩) (by assumption) ?_
          · intro W hSw
            try dsimp only at hSw
            go_simp
            try with_reducible rfl
          simp only [Act.put]
          refine wpAnyH_take (i := 4) (v := .pointer (some ⟨gx, 5, none⟩)) (by rfl) (by kernel_rfl) (by kernel_rfl) (by kernel_rfl) (by intro _ _ _ h; exact h) (Or.inl ⟨by rfl, ?_⟩) (by assumption) ?_
          · intro W hSw
            try dsimp only at hSw
            go_simp
            try with_reducible rfl
          simp only [Act.put]
          refine wpAnyH_take (i := 6) (v := .pointer (some ⟨C, 1, none⟩)) (by rfl) (by kernel_rfl) (by kernel_rfl) (by kernel_rfl) (by intro _ _ _ h; exact h) (Or.inl ⟨by rfl, ?_⟩) (by assumption) ?_
          · intro W hSw
            try dsimp only at hSw
            go_simp
            try with_reducible rfl
          simp only [Act.put]
          refine wpAnyH_take (i := 7) (v := .int .i64 (c.count : Int)) (by rfl) (by kernel_rfl) (by kernel_rfl) (by kernel_rfl) (by intro _ _ _ h; exact h) (Or.inl ⟨by rfl, ?_⟩) (by assumption) ?_
          · intro W hSw
            try dsimp only at hSw
            go_simp
            try with_reducible rfl
          simp only [Act.put]
          refine wpAnyH_ready (rs := [5]) (by kernel_rfl) (by simp) ?_
          refine AllReadyH.cons (by rfl) (fun K hK => ?_) AllReadyH.nil
          go_simp
          refine hK.out _ _ kC.drew1 (fun hHeld2 => ?_)
          clear hK K hHeld
          refine wpAnyH_ready (rs := [8]) (by kernel_rfl) (by simp) ?_
          refine AllReadyH.cons (by rfl) (fun K hK => ?_) AllReadyH.nil
          go_simp
          refine (HN.out _ R5.out.below0.rq).mono ?_
          rintro e w6 ⟨rfl, hq6⟩
          have k6 := kC.drewN.same (hq6.block _ kC.drewN.lt)
          refine hK.out _ _ (k6.cell 1) (fun hHeld3 => ?_)
          clear hK K hHeld2
          have R6 := R5.out.below0.below hq6
          have gc5 : w6.cell? ⟨gx, 5, none⟩ = some (.int .i64 (q.na : Int)) := R6.blk.cell 5
          have gc6 : w6.cell? ⟨gx, 6, none⟩ = some (.bool q.nw) := R6.blk.cell 6
          have gf5 := R6.blk.frozen 5
          have gf6 := R6.blk.frozen 6
          refine wpAnyH_take (i := 9) (v := .pointer (some ⟨gx, 0, none⟩)) (by rfl) (by kernel_rfl) (by kernel_rfl) (by kernel_rfl) (by intro _ _ _ h; exact h) (Or.inl ⟨by rfl, ?_⟩) (by assumption) ?_
          · intro W hSw
            try dsimp only at hSw
            go_simp
            try with_reducible rfl
          simp only [Act.put]
          refine wpAnyH_take (i := 10) (v := .pointer (some ⟨gx, 5, none⟩)) (by rfl) (by kernel_rfl) (by kernel_rfl) (by kernel_rfl) (by intro _ _ _ h; exact h) (Or.inl ⟨by rfl, ?_⟩) (by assumption) ?_
          · intro W hSw
            try dsimp only at hSw
            go_simp
            try with_reducible rfl
          simp only [Act.put]
          refine wpAnyH_ready (rs := [11]) (by kernel_rfl) (by simp) ?_
          refine AllReadyH.cons (by rfl) (fun K hK => ?_) AllReadyH.nil
          go_simp
          have k7 := (k6.other (k := gx) hCx 5 (.int .i64 (NA : Int))).other (k := gx) hCx 6 (.bool NW)
          refine hK.out _ _ (k7.cell 1) (fun hHeld4 => ?_)
          clear hK K hHeld3
          refine wpAnyH_done (by kernel_rfl) ?_ _
          refine NoPanic.normal ?_
          have R7 := (R6.set 5 (.int .i64 (NA : Int)) (q2 := { q with na := NA }) rfl).set 6 (.bool NW) (q2 := { q with na := NA, nw := NW }) rfl
          have kres6 := HK5.out.drewN.same (hq6.block _ HK5.out.drewN.lt)
          have kres7 := (kres6.other (k := gx) hgne 5 (.int .i64 (NA : Int))).other (k := gx) hgne 6 (.bool NW)
          have own6 := own_same (w' := w6) HO5.out.drew (fun k hk => hq6.block k (HO5.out.drew.lt k hk).2)
          have hox : ∀ g, (Value.slice A c.parts.length cap).ownBlock = some g → g ≠ gx := fun g hg e => own_ne own6 R6.blk (by decide) (e ▸ hg)
          have own7 := own_put (own_put own6 hox 5 (.int .i64 (NA : Int))) hox 6 (.bool NW)
          obtain ⟨W7, hW7⟩ : ∃ W7, (w6.setCell ⟨gx, 5, none⟩ (.int .i64 (NA : Int))).setCell ⟨gx, 6, none⟩ (.bool NW) = W7 := ⟨_, rfl⟩
          rw [hW7] at R7 k7 kres7 own7 ⊢
          have g12 : W7.cell? ⟨gx, 12, none⟩ = some (.int .i64 (q.out : Int)) := R7.blk.cell 12
          have f12 := R7.blk.frozen 12
          have ltx7 := R7.blk.lt
          have v1 : IntKind.i64.wrap ((q.out : Int) + (c.count : Int)) = (q.out : Int) + (c.count : Int) := by rw [IntKind.wrap_i64]; have := HQ.out.s2; omega
          have k8 := k7
          have R7 := Lib.hid R7
          have HK7 := Lib.hid kres7
          have HO7 := Lib.hid own7
          have hox := Lib.hid hox
          clear hW7 R6 k6 k7 kres6 kres7 own6 own7 kC gc5 gc6 gf5 gf6 hq6 ltx hHeld4 HK5 HO5 R5 HN
          go_wp2_with fail
          refine wp_region_noPanic ?_
          refine wp_region_held_drew (S := fun W => W.cell? ⟨C, 1, none⟩ = some (.int .i64 (c.count : Int))) (by kernel_rfl) k8.drew1 (fun hHeld => ?_)
          refine wpAnyH_take (i := 0) (v := .pointer (some ⟨gx, 0, none⟩)) (by rfl) (by kernel_rfl) (by kernel_rfl) (by kernel_rfl) (by intro _ _ _ h; exact h) (Or.inl ⟨by rfl, ?_⟩) (by assumption) ?_
          · intro W hSw
            try dsimp only at hSw
            go_simp
            try with_reducible rfl
          simp only [Act.put, List.setIfInBounds_toArray]
          refine wpAnyH_take (i := 1) (v := .pointer (some ⟨gx, 0, none⟩)) (by rfl) (by kernel_rfl) (by kernel_rfl) (by kernel_rfl) (by intro _ _ _ h; exact h) (Or.inl ⟨by rfl, ?_⟩) (by assumption) ?_
          · intro W hSw
            try dsimp only at hSw
            go_simp
            try with_reducible rfl
          simp only [Act.put]
          refine wpAnyH_take (i := 2) (v := .pointer (some ⟨gx, 12, none⟩)) (by rfl) (by kernel_rfl) (by kernel_rfl) (by kernel_rfl) (by intro _ _ _ h; exact h) (Or.inl ⟨by rfl, ?_⟩) (by assumption) ?_
          · intro W hSw
            try dsimp only at hSw
            go_simp
            try with_reducible rfl
          simp only [Act.put]
          refine wpAnyH_take (i := 4) (v := .pointer (some ⟨C, 1, none⟩)) (by rfl) (by kernel_rfl) (by kernel_rfl) (by kernel_rfl) (by intro _ _ _ h; exact h) (Or.inl ⟨by rfl, ?_⟩) (by assumption) ?_
          · intro W hSw
            try dsimp only at hSw
            go_simp
            try with_reducible rfl
          simp only [Act.put]
          refine wpAnyH_take (i := 5) (v := .int .i64 (c.count : Int)) (by rfl) (by kernel_rfl) (by kernel_rfl) (by kernel_rfl) (by intro _ _ _ h; exact h) (Or.inl ⟨by rfl, ?_⟩) (by assumption) ?_
          · intro W hSw
            try dsimp only at hSw
            go_simp
            try with_reducible rfl
          simp only [Act.put]
          refine wpAnyH_ready (rs := [3]) (by kernel_rfl) (by simp) ?_
          refine AllReadyH.cons (by rfl) (fun K hK => ?_) AllReadyH.nil
          go_simp
          refine hK.out _ _ k8.drew1 (fun hHeld2 => ?_)
          clear hK K hHeld
          refine wpAnyH_take (i := 6) (v := .int .i64 ((q.out : Int) + (c.count : Int))) (by rfl) (by kernel_rfl) (by kernel_rfl) (by kernel_rfl) (by intro _ _ _ h; exact h) (Or.inl ⟨by rfl, ?_⟩) (by assumption) ?_
          · intro W hSw
            try dsimp only at hSw
            go_simp
            try with_reducible rfl
          simp only [Act.put]
          refine wpAnyH_take (i := 7) (v := .pointer (some ⟨gx, 0, none⟩)) (by rfl) (by kernel_rfl) (by kernel_rfl) (by kernel_rfl) (by intro _ _ _ h; exact h) (Or.inl ⟨by rfl, ?_⟩) (by assumption) ?_
          · intro W hSw
            try dsimp only at hSw
            go_simp
            try with_reducible rfl
          simp only [Act.put]
          refine wpAnyH_take (i := 8) (v := .pointer (some ⟨gx, 12, none⟩)) (by rfl) (by kernel_rfl) (by kernel_rfl) (by kernel_rfl) (by intro _ _ _ h; exact h) (Or.inl ⟨by rfl, ?_⟩) (by assumption) ?_
          · intro W hSw
            try dsimp only at hSw
            go_simp
            try with_reducible rfl
          simp only [Act.put]
          refine wpAnyH_ready (rs := [9]) (by kernel_rfl) (by simp) ?_
          refine AllReadyH.cons (by rfl) (fun K hK => ?_) AllReadyH.nil
          go_simp
          refine hK.out _ _ ((k8.other (k := gx) hCx 12 (.int .i64 ((q.out : Int) + (c.count : Int)))).cell 1) (fun hHeld3 => ?_)
          clear hK K hHeld2
          refine wpAnyH_done (by kernel_rfl) ?_ _
          refine NoPanic.normal ?_
          have R8 := (R7.out.set 12 (.int .i64 ((q.out : Int) + (c.count : Int))) (q2 := { q with na := NA, nw := NW, out := q.out + c.count }) rfl).below0
          have kC8 := (k8.other (k := gx) hCx 12 (.int .i64 ((q.out : Int) + (c.count : Int)))).drewN
          have kres8 := (HK7.out.other (k := gx) hgne 12 (.int .i64 ((q.out : Int) + (c.count : Int)))).drewN
          have own8 := (own_put HO7.out hox.out 12 (.int .i64 ((q.out : Int) + (c.count : Int)))).drew
          obtain ⟨W8, hW8⟩ : ∃ W8, (W7.setCell ⟨gx, 12, none⟩ (.int .i64 ((q.out : Int) + (c.count : Int)))).drew = W8 := ⟨_, rfl⟩
          rw [hW8] at R8 kC8 kres8 own8 hHeld3 ⊢
          clear hW8 g12 f12 v1 k8 R7 HK7 HO7 hHeld3 ltx7
          have x0 := kC8.cell 0
          have x1 := kC8.cell 1
          have x2 := kC8.cell 2
          have y0 := kres8.cell 0
          have y1 := kres8.cell 1
          have y2 := kres8.cell 2
          simp only [List.getElem?_toArray, List.getElem?_cons_zero, List.getElem?_cons_succ] at x0 x1 x2 y0 y1 y2
          have y3 := kres8.frozen 0
          have y4 := kres8.frozen 1
          have y5 := kres8.frozen 2
          have y6 := kres8.lt
          have x6 := kC8.lt
          have HZ := Lib.hid (Ro.put3 R8 kres8 (Nat.le_refl _) (.int .i64 (c.id : Int)) (.int .i64 (c.count : Int)) (.slice A c.parts.length cap))
          have hor : ∀ g, (Value.slice A c.parts.length cap).ownBlock = some g → g ≠ w.heap.size := fun g hg e => own_ne own8 kres8 (by decide) (e ▸ hg)
          have HO9 := Lib.hid (own_put (own_put (own_put own8 hor 0 (.int .i64 (c.id : Int))) hor 1 (.int .i64 (c.count : Int))) hor 2 (.slice A c.parts.length cap))
          clear R8 kC8 kres8 own8 hor
          go_wp2_with fail
          refine bodyPost_ret (v := .tuple #[.agg #[.int .i64 (c.id : Int), .int .i64 (c.count : Int), .slice A c.parts.length cap], .bool true, .int .i64 0]) (three_next12 _ _ _ w.heap.size true 0 rfl rfl rfl rfl _ _ _ HZ.out.2) rfl ⟨A, cap, rfl, HO9.out, ?_⟩
          have := HZ.out.1
          rw [← HNA.out, ← HNW.out] at this
          exact this

end Go.Proofs.Ytoblemgeacllkaa
