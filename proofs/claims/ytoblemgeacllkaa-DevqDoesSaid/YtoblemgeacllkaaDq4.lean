/-
  naming, parts: which descriptors name a chain's parts; its parts, or that one may not be.
-/
import Derived.Test.YtoblemgeacllkaaDq3
namespace Go.Proofs.Ytoblemgeacllkaa
open Go.RowKit

/-- what naming answers: a slice that may be read -/
def NameP (c : Ctx) (w : World) (V : Option (List De)) (e : Ending) (w' : World) : Prop :=
  Rm c w w' ∧ match V with
  | none => Bad e
  | some l => ∃ A cap, e = .returned (.slice A l.length cap) ∧ w'.ownsRow 0 35 4 (.slice A l.length cap) l.length (desCells l)
theorem nameV_more (xs : List UInt8) (l : List De) (h : l.length ≠ 1) : nameV xs l = some l := by
  match l, h with
  | [], _ => rfl
  | [d], h => exact absurd rfl h
  | _ :: _ :: _, _ => rfl
theorem nameV_one (xs : List UInt8) (d : De) (h : d.bit 4 = false) : nameV xs [d] = some [d] := by simp [nameV, h]
theorem nameV_tab (xs : List UInt8) (d : De) (h : d.bit 4 = true) : nameV xs [d] = if tabOk xs d then some (tabL xs d) else none := by simp [nameV, h]
theorem tabL_ok (xs : List UInt8) (d : De) (h : tabOk xs d = true) : ∀ x ∈ tabL xs d, x.Ok := by
  have hyes : 0 < d.n ∧ d.n % 16 = 0 ∧ d.n ≤ 1024 ∧ d.a + d.n ≤ xs.length := by unfold tabOk at h; simpa using h
  intro x hx
  unfold tabL at hx
  obtain ⟨i, hi, rfl⟩ := List.mem_map.1 hx
  have := List.mem_range.1 hi
  exact deAt_ok xs _ (by omega)
theorem nameV_ok {xs : List UInt8} {l r : List De} (h : nameV xs l = some r) (hl : ∀ d ∈ l, d.Ok) : ∀ d ∈ r, d.Ok := by
  by_cases k : l.length = 1
  · match l, k with
    | [d], _ =>
      cases hb : d.bit 4
      · rw [nameV_one xs d hb] at h; injection h with h; subst h; exact hl
      · rw [nameV_tab xs d hb] at h
        cases ht : tabOk xs d
        · rw [ht] at h; cases h
        · rw [ht] at h; injection h with h; subst h; exact tabL_ok xs d ht
  · rw [nameV_more xs l k] at h; injection h with h; subst h; exact hl
set_option maxRecDepth 100000 in
set_option maxHeartbeats 1600000 in
theorem naming_more {c : Ctx} {wE w : World} (h : Rm c wE w) (l : List De) (A : Option Addr) (cap : Nat) (hl : l.length ≠ 1) (hown : w.ownsRow 0 35 4 (.slice A l.length cap) l.length (desCells l)) :
    Calls Try.prog 89 #[.pointer (some ⟨c.gq, 0, none⟩), .slice A l.length cap] w (NameP c w (some l)) := by
  have HE := Lib.hid h.enter
  have HO := Lib.hid hown
  have hn : ((l.length : Int) == 1) = false := by simp; omega
  clear h hown hl
  go_enter Try.func89, Try.ntmps89
  go_wp2_with fail
  go_ret
  exact ⟨HE.out, A, cap, rfl, HO.out⟩
set_option maxRecDepth 100000 in
set_option maxHeartbeats 1600000 in
theorem naming_one {c : Ctx} {wE w : World} (h : Rm c wE w) (d : De) (hd : d.Ok) (gr cap : Nat) (hown : w.ownsRow 0 35 4 (.slice (some ⟨gr, 0, none⟩) 1 cap) 1 (desCells [d])) :
    Calls Try.prog 89 #[.pointer (some ⟨c.gq, 0, none⟩), .slice (some ⟨gr, 0, none⟩) 1 cap] w (NameP c w (nameV c.xs [d])) := by
  have HE := Lib.hid h.enter
  have HO := Lib.hid hown
  have hrow := hown.cells (g := gr) rfl
  have hltg := (hown.lt gr rfl).2
  have hcl := desCells_at [d] 0 (by simp)
  simp only [List.getElem_cons_zero] at hcl
  have r0 := hrow _ _ hcl.1
  have r1 := hrow _ _ hcl.2.1
  have r2 := hrow _ _ hcl.2.2.1
  have r3 := hrow _ _ hcl.2.2.2
  rw [addr_zero] at r0 r1 r2 r3
  simp only [Nat.zero_mul, Nat.zero_add] at r0 r1 r2 r3
  have HB := fun W => has_any d hd 4 (.inr (.inr rfl)) W
  have HT := fun W (h : Rm c W W) => table_any h d hd
  obtain ⟨V, hV⟩ : ∃ V, (if tabOk c.xs d then some (tabL c.xs d) else none) = V := ⟨_, rfl⟩
  cases hb : d.bit 4
  · rw [nameV_one _ _ hb]
    rw [hb] at HB
    unfold De.v at HB
    have HB := Lib.hid HB
    clear h hown hrow hcl hb HT hV
    go_enter Try.func89, Try.ntmps89
    go_wp2_with fail
    refine (HB.out _).mono ?_
    rintro e w1 ⟨rfl, hq⟩
    go_wp2_with fail
    go_ret
    exact ⟨HE.out.below hq, some ⟨gr, 0, none⟩, cap, rfl, own_same HO.out (fun k hk => hq.block k (HO.out.lt k hk).2)⟩
  · rw [nameV_tab _ _ hb]
    rw [hb] at HB
    rw [hV] at HT ⊢
    unfold De.v at HB HT
    have HB := Lib.hid HB
    have HT := Lib.hid HT
    clear h hown hrow hcl hb hV
    go_enter Try.func89, Try.ntmps89
    go_wp2_with fail
    refine (HB.out _).mono ?_
    rintro e w1 ⟨rfl, hq⟩
    have R1 := HE.out.below hq
    have r0 := (hq.cell (p := ⟨gr, 0, none⟩) hltg).trans r0
    have r1 := (hq.cell (p := ⟨gr, 1, none⟩) hltg).trans r1
    have r2 := (hq.cell (p := ⟨gr, 2, none⟩) hltg).trans r2
    have r3 := (hq.cell (p := ⟨gr, 3, none⟩) hltg).trans r3
    clear hq
    go_wp2_with fail
    refine (HT.out _ R1.enter).mono ?_
    intro e w2 hL
    obtain ⟨R2, hL⟩ := hL
    have R3 := R1.leave R2
    cases V with
    | none =>
      have he : Bad e := hL
      unfold Bad at he
      subst he
      exact ⟨rfl, R3, rfl⟩
    | some r =>
      obtain ⟨A', cap', rfl, ho⟩ := hL
      have ho := Lib.hid ho
      have R3 := Lib.hid R3
      clear R1 R2
      go_wp2_with fail
      go_ret
      exact ⟨R3.out, A', cap', rfl, own_base ho.out (Nat.zero_le _)⟩
theorem naming_any {c : Ctx} {wE w : World} (h : Rm c wE w) (l : List De) (hl : ∀ d ∈ l, d.Ok) (A : Option Addr) (cap : Nat) (hown : w.ownsRow 0 35 4 (.slice A l.length cap) l.length (desCells l)) :
    Calls Try.prog 89 #[.pointer (some ⟨c.gq, 0, none⟩), .slice A l.length cap] w (NameP c w (nameV c.xs l)) := by
  by_cases k : l.length = 1
  · match l, k with
    | [d], _ =>
      obtain ⟨gr, cap', he, _, _⟩ := hown.form (by simp)
      injection he with h1 h2 h3
      subst h1 h3
      exact naming_one h d (hl d (by simp)) gr _ hown
  · rw [nameV_more _ _ k]
    exact naming_more h l A cap k hown

/-! parts -/
def PartsP (c : Ctx) (w : World) (V : Option (List Pt)) (e : Ending) (w' : World) : Prop :=
  Rm c w w' ∧ match V with
  | none => Bad e
  | some l => ∃ A cap, e = .returned (.slice A l.length cap) ∧ w'.ownsRow w.heap.size 56 3 (.slice A l.length cap) l.length (ptCells l)
structure PartsL (c : Ctx) (w : World) (A : Option Addr) (cap : Nat) (l : List De) (V : Option (List Pt)) (s : Value) (acc : List Pt) (k : Nat) (b : Bool) (wr : World) : Prop where
  rm : Rm c w wr
  row : wr.ownsRow 0 35 4 (.slice A l.length cap) l.length (desCells l)
  own : wr.ownsRow w.heap.size 56 3 s acc.length (ptCells acc)
  go : (partsGo c.xs (l.drop k) b).map (acc ++ ·) = V
  len : acc.length = k
theorem partsGo_bad {xs : List UInt8} {d : De} {r : List De} {b : Bool} (h : (!d.bit 4 && d.fit xs && (d.bit 2 || !b)) = false) : partsGo xs (d :: r) b = none := by simp [partsGo, h]
theorem partsGo_good {xs : List UInt8} {d : De} {r : List De} {b : Bool} (h : (!d.bit 4 && d.fit xs && (d.bit 2 || !b)) = true) : partsGo xs (d :: r) b = (partsGo xs r (d.bit 2)).map (⟨d.a, d.n, d.bit 2⟩ :: ·) := by simp [partsGo, h]
theorem parts_next {xs : List UInt8} {d : De} {r : List De} {b : Bool} {acc : List Pt} (h : (!d.bit 4 && d.fit xs && (d.bit 2 || !b)) = true) :
    (partsGo xs (d :: r) b).map (acc ++ ·) = (partsGo xs r (d.bit 2)).map ((acc ++ [⟨d.a, d.n, d.bit 2⟩]) ++ ·) := by
  rw [partsGo_good h, Option.map_map]
  congr 1
  funext x
  simp
/-- a round under way: its descriptor in a variable -/
structure PartsB (c : Ctx) (w : World) (A : Option Addr) (cap : Nat) (l : List De) (s : Value) (acc : List Pt) (kb : Nat) (d : De) (W : World) : Prop where
  rm : Rm c w W
  row : W.ownsRow 0 35 4 (.slice A l.length cap) l.length (desCells l)
  own : W.ownsRow w.heap.size 56 3 s acc.length (ptCells acc)
  box : Blk W kb 35 #[.int .u64 (d.a : Int), .int .u32 (d.n : Int), .int .i64 (d.id : Int), .int .i64 (d.f : Int)]
section
variable {c : Ctx} {w W W' : World} {A : Option Addr} {cap kb : Nat} {l : List De} {s : Value} {acc : List Pt} {d : De}
theorem PartsB.below (h : PartsB c w A cap l s acc kb d W) (hq : Below W.heap.size W W') : PartsB c w A cap l s acc kb d W' :=
  ⟨h.rm.below hq, own_same h.row (fun k hk => hq.block k (h.row.lt k hk).2), own_same h.own (fun k hk => hq.block k (h.own.lt k hk).2), h.box.same (hq.block _ h.box.lt)⟩
theorem PartsB.facts (h : PartsB c w A cap l s acc kb d W) : W.cell? ⟨kb, 0, none⟩ = some (.int .u64 (d.a : Int)) ∧ W.cell? ⟨kb, 1, none⟩ = some (.int .u32 (d.n : Int)) ∧ W.cell? ⟨kb, 2, none⟩ = some (.int .i64 (d.id : Int)) ∧ W.cell? ⟨kb, 3, none⟩ = some (.int .i64 (d.f : Int)) ∧ W.cell? ⟨c.gq, 0, none⟩ = some (.pointer (some ⟨c.g, 0, none⟩)) :=
  ⟨h.box.cell 0, h.box.cell 1, h.box.cell 2, h.box.cell 3, h.rm.cells.1⟩
end
set_option maxRecDepth 100000 in
set_option maxHeartbeats 3200000 in
theorem parts_any {c : Ctx} {wE w : World} (h : Rm c wE w) (l : List De) (hl : ∀ d ∈ l, d.Ok) (hlen : l.length ≤ 64) (A : Option Addr) (cap : Nat) (hown : w.ownsRow 0 35 4 (.slice A l.length cap) l.length (desCells l)) :
    Calls Try.prog 88 #[.pointer (some ⟨c.gq, 0, none⟩), .slice A l.length cap] w (PartsP c w (partsGo c.xs l false)) := by
  obtain ⟨lvx, hMx⟩ := h.get
  have hx := Lib.hid hMx.len
  have HE := Lib.hid h.enter
  have HO := Lib.hid hown
  have HL := Lib.hid hl
  obtain ⟨i0, hi, hz0, hz1, hz2⟩ := info_parts Try.info56
  have HI := Lib.hid hi
  have HZ0 := Lib.hid hz0
  have HZ1 := Lib.hid hz1
  have HZ2 := Lib.hid hz2
  obtain ⟨V, hV⟩ : ∃ V, partsGo c.xs l false = V := ⟨_, rfl⟩
  rw [hV]
  have HV : Hid ((partsGo c.xs (l.drop 0) false).map (([] : List Pt) ++ ·) = V) := by
    show _ = _
    rw [List.drop_zero, ← hV]
    simp
  obtain ⟨n, hn⟩ : ∃ n, l.length = n := ⟨_, rfl⟩
  have HN := Lib.hid hn
  rw [hn] at HO hlen ⊢
  clear h hown hl hi hz0 hz1 hz2 hV hMx hn
  go_enter Try.func88, Try.ntmps88
  go_wp2_with fail
  go_loopw [5, 6, 13] (fun s b i wr => ∃ (acc : List Pt) (k : Nat) (v : Bool), k ≤ n ∧ i = .int .i64 (k : Int) ∧ b = .bool v ∧ PartsL c w A cap l V s acc k v wr) (fun _ _ i _ => n - (intOf i).toNat)
  case atStart => exact ⟨[], 0, false, Nat.zero_le _, rfl, rfl, HE.out, by rw [HN.out]; exact HO.out, World.ownsRow_nil _ _ _ _, HV.out, rfl⟩
  case round =>
    obtain ⟨acc, k, v, hk, rfl, rfl, RL⟩ := hrel
    obtain ⟨A2, cap2, rfl⟩ := own_form RL.own
    by_cases hkn : k < n
    · obtain ⟨gr, cap', he, _, hltg⟩ := RL.row.form (by rw [HN.out]; omega)
      injection he with h1 h2 h3
      subst h1 h3
      have hkl : k < l.length := by rw [HN.out]; exact hkn
      obtain ⟨d, hd⟩ : ∃ d, l[k] = d := ⟨_, rfl⟩
      have hdrop : l.drop k = d :: l.drop (k + 1) := by rw [← hd]; exact List.drop_eq_getElem_cons hkl
      have hok : d.Ok := by rw [← hd]; exact HL.out _ (List.getElem_mem hkl)
      have hcl := desCells_at l k hkl
      rw [hd] at hcl
      have hrow := RL.row.cells (g := gr) rfl
      have r0 := hrow _ _ hcl.1
      have r1 := hrow _ _ hcl.2.1
      have r2 := hrow _ _ hcl.2.2.1
      have r3 := hrow _ _ hcl.2.2.2
      rw [addr_zero] at r0 r1 r2 r3
      have H4 := fun W => has_any d hok 4 (.inr (.inr rfl)) W
      have H2 := fun W => has_any d hok 2 (.inr (.inl rfl)) W
      have HP := fun W => place_any d hok W
      have HM := fun W (h : Rm c W W) => h.may (plA d) (d.n : Int) (by have := hok.n; omega)
      rw [may_place hx.out d hok] at HM
      have hgo := RL.go
      rw [hdrop] at hgo
      have hlt := RL.rm.lt
      have hne := Nat.ne_of_lt hlt
      have hacc := RL.len
      have hdn := hok.n
      unfold De.v at H4 H2 HP
      have B0 : PartsB c w (some ⟨gr, 0, none⟩) cap l (.slice A2 acc.length cap2) acc wr.heap.size d (wr.alloc (.cells #[.int .u64 (d.a : Int), .int .u32 (d.n : Int), .int .i64 (d.id : Int), .int .i64 (d.f : Int)] 35)) :=
        ⟨RL.rm.alloc _, RL.row.alloc _, RL.own.alloc _, Blk.new _ _ _⟩
      have B0 := Lib.hid B0
      have Hgo := Lib.hid hgo
      have HP := Lib.hid HP
      have Hacc := Lib.hid hacc
      rw [hacc]
      clear hcl hrow RL hgo hd hdrop hok hkl hacc
      cases e4 : d.bit 4
      · rw [e4] at H4
        have H4 := Lib.hid H4
        by_cases k1 : 0 < d.n
        · have q1 : (0 : Int) < (d.n : Int) := by omega
          by_cases k2 : d.a + d.n ≤ c.xs.length
          · have hpl : plA d = (d.a : Int) := by have := hx.out; unfold plA; rw [if_pos (by omega)]
            rw [decide_eq_true k2, hpl] at HM
            have HP := HP.out
            rw [hpl] at HP
            have HP := Lib.hid HP
            have HM := Lib.hid HM
            have hfit : d.fit c.xs = true := by unfold De.fit; exact decide_eq_true ⟨k1, k2⟩
            have hda : (d.a : Int) ≤ 1048576 := by have := hx.out; omega
            have hdn2 : (d.n : Int) ≤ 1048576 := by have := hx.out; omega
            cases e2 : d.bit 2
            · rw [e2] at H2
              have H2 := Lib.hid H2
              cases v with
              | true =>
                obtain rfl : none = V := by
                  rw [← Hgo.out, partsGo_bad (by rw [e4, e2, hfit]; rfl)]
                  rfl
                clear e4 e2 k1 k2 hpl hfit

                go_wp2_with fail
                refine (HP.out _).mono ?_
                rintro e w1 ⟨rfl, hq⟩
                have B1 := Lib.hid (B0.out.below hq)
                clear hq
                obtain ⟨b0, b1, b2, b3, p0⟩ := B1.out.facts
                go_wp2_with fail

                refine (H4.out _).mono ?_
                rintro e w2 ⟨rfl, hq⟩
                have B2 := Lib.hid (B1.out.below hq)
                clear hq
                obtain ⟨b0, b1, b2, b3, p0⟩ := B2.out.facts
                go_wp2_with fail

                refine (HM.out _ B2.out.rm.enter).mono ?_
                rintro e w3 ⟨rfl, rfl⟩
                go_wp2_with fail

                refine (req_yes _).mono ?_
                rintro e w4 ⟨rfl, rfl⟩
                go_wp2_with fail

                refine (H2.out _).mono ?_
                rintro e w5 ⟨rfl, hq⟩
                have B5 := Lib.hid (B2.out.below hq)
                clear hq
                obtain ⟨b0, b1, b2, b3, p0⟩ := B5.out.facts
                go_wp2_with fail

                refine (req_no _).mono ?_
                rintro e w6 ⟨he, rfl⟩
                unfold Bad at he
                subst he
                exact ⟨rfl, B5.out.rm, rfl⟩
              | false =>
                have Hgo2 := Lib.hid ((parts_next (by rw [e4, e2, hfit]; rfl)).symm.trans Hgo.out)
                rw [e2] at Hgo2
                clear e4 e2 k1 k2 hpl hfit

                go_wp2_with fail
                refine (HP.out _).mono ?_
                rintro e w1 ⟨rfl, hq⟩
                have B1 := Lib.hid (B0.out.below hq)
                clear hq
                obtain ⟨b0, b1, b2, b3, p0⟩ := B1.out.facts
                go_wp2_with fail

                refine (H4.out _).mono ?_
                rintro e w2 ⟨rfl, hq⟩
                have B2 := Lib.hid (B1.out.below hq)
                clear hq
                obtain ⟨b0, b1, b2, b3, p0⟩ := B2.out.facts
                go_wp2_with fail

                refine (HM.out _ B2.out.rm.enter).mono ?_
                rintro e w3 ⟨rfl, rfl⟩
                go_wp2_with fail

                refine (req_yes _).mono ?_
                rintro e w4 ⟨rfl, rfl⟩
                go_wp2_with fail

                refine (H2.out _).mono ?_
                rintro e w5 ⟨rfl, hq⟩
                have B5 := Lib.hid (B2.out.below hq)
                clear hq
                obtain ⟨b0, b1, b2, b3, p0⟩ := B5.out.facts
                go_wp2_with fail

                refine (req_yes _).mono ?_
                rintro e w6 ⟨rfl, rfl⟩
                go_wp2_with fail

                refine (H2.out _).mono ?_
                rintro e w7 ⟨rfl, hq⟩
                have B7 := B5.out.below hq
                clear hq b0 b1 b2 b3 p0
                have R7 := B7.rm.alloc (.cells #[.int .i64 (d.a : Int), .int .i64 (d.n : Int), .bool false] 56)
                have O7 := B7.own.alloc (.cells #[.int .i64 (d.a : Int), .int .i64 (d.n : Int), .bool false] 56)
                have L7 := B7.row.alloc (.cells #[.int .i64 (d.a : Int), .int .i64 (d.n : Int), .bool false] 56)
                rw [Hacc.out] at O7
                have hnews := World.news_of_block (w := w7.alloc (.cells #[.int .i64 (d.a : Int), .int .i64 (d.n : Int), .bool false] 56)) (heap_alloc_new w7 _)
                have hbase := R7.keep.size
                have R7 := Lib.hid R7
                have O7 := Lib.hid O7
                have L7 := Lib.hid L7
                have HW := Lib.hid hnews
                have hk64 : k ≤ 64 := by omega
                clear hnews B7
                go_wp2_with (at_builtin; refine wpList_append_lies _ rfl (.tmp 48) (.tmp 53) 49 rfl w.heap.size 56 i0 _ 3 24 Try.underlying49 HI.out HZ0.out HZ1.out HZ2.out rfl (by decide) (.slice A2 k cap2) k (ptCells acc) rfl O7.out ⟨w7.heap.size, 0, none⟩ 1 1 (Pt.cells ⟨d.a, d.n, false⟩) rfl rfl HW.out (pt_one _) (by decide) (by unfold maxLen; omega) (by omega) hbase (w7.heap.size + 1) (by simp) ?_; intro g2 cap3 w8 hown hgrow hat hlt2)
                have R8 := R7.out.grown O7.out (Nat.le_refl _) hgrow (by decide) (by decide) (by decide) (by decide)
                have L8 := own_same L7.out (fun j hj => hgrow.block j (L7.out.lt j hj).2 (fun e1 => by
                  have e2 : j = gr := by simpa [Value.ownBlock] using hj.symm
                  subst e2
                  rcases L7.out.2 with ⟨h', _⟩ | ⟨g', cap', cur, h', _, hh, _⟩
                  · simp at h'
                  · have : j = g' := by simp at h'; exact h'.1
                    subst this
                    exact own_ne O7.out (show Blk _ j 35 cur from hh) (by decide) e1.symm))
                have H8 := Lib.hid hown
                have R8 := Lib.hid R8
                have L8 := Lib.hid L8
                clear hgrow hat hown
                go_roundw
                case rel =>
                  refine ⟨acc ++ [⟨d.a, d.n, false⟩], k + 1, false, by omega, by go_num, rfl, R8.out, L8.out, ?_, Hgo2.out, by rw [List.length_append, Hacc.out]; rfl⟩
                  rw [List.length_append, Hacc.out, ptCells_append]
                  have := H8.out
                  simpa [ptCells] using this
                case measure => simp [intOf]; omega
            · rw [e2] at H2
              have H2 := Lib.hid H2
              have Hgo2 := Lib.hid ((parts_next (by rw [e4, e2, hfit]; rfl)).symm.trans Hgo.out)
              rw [e2] at Hgo2
              clear e4 e2 k1 k2 hpl hfit

              go_wp2_with fail
              refine (HP.out _).mono ?_
              rintro e w1 ⟨rfl, hq⟩
              have B1 := Lib.hid (B0.out.below hq)
              clear hq
              obtain ⟨b0, b1, b2, b3, p0⟩ := B1.out.facts
              go_wp2_with fail

              refine (H4.out _).mono ?_
              rintro e w2 ⟨rfl, hq⟩
              have B2 := Lib.hid (B1.out.below hq)
              clear hq
              obtain ⟨b0, b1, b2, b3, p0⟩ := B2.out.facts
              go_wp2_with fail

              refine (HM.out _ B2.out.rm.enter).mono ?_
              rintro e w3 ⟨rfl, rfl⟩
              go_wp2_with fail

              refine (req_yes _).mono ?_
              rintro e w4 ⟨rfl, rfl⟩
              go_wp2_with fail

              refine (H2.out _).mono ?_
              rintro e w5 ⟨rfl, hq⟩
              have B5 := Lib.hid (B2.out.below hq)
              clear hq
              obtain ⟨b0, b1, b2, b3, p0⟩ := B5.out.facts
              go_wp2_with fail

              refine (req_yes _).mono ?_
              rintro e w6 ⟨rfl, rfl⟩
              go_wp2_with fail

              refine (H2.out _).mono ?_
              rintro e w7 ⟨rfl, hq⟩
              have B7 := B5.out.below hq
              clear hq b0 b1 b2 b3 p0
              have R7 := B7.rm.alloc (.cells #[.int .i64 (d.a : Int), .int .i64 (d.n : Int), .bool true] 56)
              have O7 := B7.own.alloc (.cells #[.int .i64 (d.a : Int), .int .i64 (d.n : Int), .bool true] 56)
              have L7 := B7.row.alloc (.cells #[.int .i64 (d.a : Int), .int .i64 (d.n : Int), .bool true] 56)
              rw [Hacc.out] at O7
              have hnews := World.news_of_block (w := w7.alloc (.cells #[.int .i64 (d.a : Int), .int .i64 (d.n : Int), .bool true] 56)) (heap_alloc_new w7 _)
              have hbase := R7.keep.size
              have R7 := Lib.hid R7
              have O7 := Lib.hid O7
              have L7 := Lib.hid L7
              have HW := Lib.hid hnews
              have hk64 : k ≤ 64 := by omega
              clear hnews B7
              go_wp2_with (at_builtin; refine wpList_append_lies _ rfl (.tmp 48) (.tmp 53) 49 rfl w.heap.size 56 i0 _ 3 24 Try.underlying49 HI.out HZ0.out HZ1.out HZ2.out rfl (by decide) (.slice A2 k cap2) k (ptCells acc) rfl O7.out ⟨w7.heap.size, 0, none⟩ 1 1 (Pt.cells ⟨d.a, d.n, true⟩) rfl rfl HW.out (pt_one _) (by decide) (by unfold maxLen; omega) (by omega) hbase (w7.heap.size + 1) (by simp) ?_; intro g2 cap3 w8 hown hgrow hat hlt2)
              have R8 := R7.out.grown O7.out (Nat.le_refl _) hgrow (by decide) (by decide) (by decide) (by decide)
              have L8 := own_same L7.out (fun j hj => hgrow.block j (L7.out.lt j hj).2 (fun e1 => by
                have e2 : j = gr := by simpa [Value.ownBlock] using hj.symm
                subst e2
                rcases L7.out.2 with ⟨h', _⟩ | ⟨g', cap', cur, h', _, hh, _⟩
                · simp at h'
                · have : j = g' := by simp at h'; exact h'.1
                  subst this
                  exact own_ne O7.out (show Blk _ j 35 cur from hh) (by decide) e1.symm))
              have H8 := Lib.hid hown
              have R8 := Lib.hid R8
              have L8 := Lib.hid L8
              clear hgrow hat hown
              go_roundw
              case rel =>
                refine ⟨acc ++ [⟨d.a, d.n, true⟩], k + 1, true, by omega, by go_num, rfl, R8.out, L8.out, ?_, Hgo2.out, by rw [List.length_append, Hacc.out]; rfl⟩
                rw [List.length_append, Hacc.out, ptCells_append]
                have := H8.out
                simpa [ptCells] using this
              case measure => simp [intOf]; omega
          · rw [decide_eq_false k2] at HM
            have HM := Lib.hid HM
            obtain rfl : none = V := by
              rw [← Hgo.out, partsGo_bad (by rw [show d.fit c.xs = false from decide_eq_false (fun h => k2 h.2)]; simp)]
              rfl
            clear e4 k1 k2

            go_wp2_with fail
            refine (HP.out _).mono ?_
            rintro e w1 ⟨rfl, hq⟩
            have B1 := Lib.hid (B0.out.below hq)
            clear hq
            obtain ⟨b0, b1, b2, b3, p0⟩ := B1.out.facts
            go_wp2_with fail

            refine (H4.out _).mono ?_
            rintro e w2 ⟨rfl, hq⟩
            have B2 := Lib.hid (B1.out.below hq)
            clear hq
            obtain ⟨b0, b1, b2, b3, p0⟩ := B2.out.facts
            go_wp2_with fail

            refine (HM.out _ B2.out.rm.enter).mono ?_
            rintro e w3 ⟨rfl, rfl⟩
            go_wp2_with fail

            refine (req_no _).mono ?_
            rintro e w6 ⟨he, rfl⟩
            unfold Bad at he
            subst he
            exact ⟨rfl, B2.out.rm, rfl⟩
        · have q1 : ¬ (0 : Int) < (d.n : Int) := by omega
          have q2 : (d.n : Int) ≤ 0 := by omega
          obtain rfl : none = V := by
            rw [← Hgo.out, partsGo_bad (by rw [show d.fit c.xs = false from decide_eq_false (fun h => k1 h.1)]; simp)]
            rfl
          clear e4 k1

          go_wp2_with fail
          refine (HP.out _).mono ?_
          rintro e w1 ⟨rfl, hq⟩
          have B1 := Lib.hid (B0.out.below hq)
          clear hq
          obtain ⟨b0, b1, b2, b3, p0⟩ := B1.out.facts
          go_wp2_with fail

          refine (H4.out _).mono ?_
          rintro e w2 ⟨rfl, hq⟩
          have B2 := Lib.hid (B1.out.below hq)
          clear hq
          obtain ⟨b0, b1, b2, b3, p0⟩ := B2.out.facts
          go_wp2_with fail

          refine (req_no _).mono ?_
          rintro e w6 ⟨he, rfl⟩
          unfold Bad at he
          subst he
          exact ⟨rfl, B2.out.rm, rfl⟩
      · rw [e4] at H4
        have H4 := Lib.hid H4
        obtain rfl : none = V := by
          rw [← Hgo.out, partsGo_bad (by rw [e4]; rfl)]
          rfl
        clear e4

        go_wp2_with fail
        refine (HP.out _).mono ?_
        rintro e w1 ⟨rfl, hq⟩
        have B1 := Lib.hid (B0.out.below hq)
        clear hq
        obtain ⟨b0, b1, b2, b3, p0⟩ := B1.out.facts
        go_wp2_with fail

        refine (H4.out _).mono ?_
        rintro e w2 ⟨rfl, hq⟩
        have B2 := Lib.hid (B1.out.below hq)
        clear hq
        obtain ⟨b0, b1, b2, b3, p0⟩ := B2.out.facts
        go_wp2_with fail

        refine (req_no _).mono ?_
        rintro e w6 ⟨he, rfl⟩
        unfold Bad at he
        subst he
        exact ⟨rfl, B2.out.rm, rfl⟩
    · obtain rfl : k = n := by omega
      have HR := Lib.hid RL
      clear RL
      obtain rfl : some acc = V := by
        rw [← HR.out.go, List.drop_eq_nil_of_le (by rw [HN.out]; exact Nat.le_refl _)]
        simp [partsGo]
      go_wp2_with fail
      go_ret
      exact ⟨HR.out.rm, A2, cap2, rfl, HR.out.own⟩
end Go.Proofs.Ytoblemgeacllkaa
