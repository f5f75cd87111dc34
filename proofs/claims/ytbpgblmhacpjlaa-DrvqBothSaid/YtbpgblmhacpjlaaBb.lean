/-
  A device's queue: naming, parts, chains.
-/
import Derived.Test.YtbpgblmhacpjlaaBa
import Derived.Defers
import Derived.Recover
namespace Go.Proofs.Ytbpgblmhacpjlaa
open Go.RowKit

/-- what naming answers: a slice that may be read -/
def NameP (c : Ctx) (w : World) (V : Option (List De)) (e : Ending) (w' : World) : Prop :=
  Rm c w w' ∧ match V with
  | none => Bad e
  | some l => ∃ A cap, e = .returned (.slice A l.length cap) ∧ w'.ownsRow 0 100 4 (.slice A l.length cap) l.length (desCells l)
theorem nameV_more (xs : List UInt8) (l : List De) (h : l.length ≠ 1) : nameV xs l = some l := by
  match l, h with
  | [], _ => rfl
  | [d], h => exact absurd rfl h
  | _ :: _ :: _, _ => rfl
theorem nameV_one (xs : List UInt8) (d : De) (h : d.bit 4 = false) : nameV xs [d] = some [d] := by simp [nameV, h]
theorem nameV_tab (xs : List UInt8) (d : De) (h : d.bit 4 = true) : nameV xs [d] = if tabOk xs d then some (tabL xs d) else none := by simp [nameV, h]
theorem tabL_ok (xs : List UInt8) (d : De) (h : tabOk xs d = true) : ∀ x ∈ tabL xs d, x.Ok := by
  have hyes : 0 < d.n ∧ d.n % 16 = 0 ∧ d.n ≤ 1024 ∧ d.a + d.n ≤ xs.length := by unfold tabOk at h; simpa using h
  intro x hx
  unfold tabL at hx
  obtain ⟨i, hi, rfl⟩ := List.mem_map.1 hx
  have := List.mem_range.1 hi
  exact deAt_ok xs _ (by omega)
theorem nameV_ok {xs : List UInt8} {l r : List De} (h : nameV xs l = some r) (hl : ∀ d ∈ l, d.Ok) : ∀ d ∈ r, d.Ok := by
  by_cases k : l.length = 1
  · match l, k with
    | [d], _ =>
      cases hb : d.bit 4
      · rw [nameV_one xs d hb] at h; injection h with h; subst h; exact hl
      · rw [nameV_tab xs d hb] at h
        cases ht : tabOk xs d
        · rw [ht] at h; cases h
        · rw [ht] at h; injection h with h; subst h; exact tabL_ok xs d ht
  · rw [nameV_more xs l k] at h; injection h with h; subst h; exact hl
set_option maxRecDepth 100000 in
set_option maxHeartbeats 1600000 in
theorem naming_more {c : Ctx} {wE w : World} (h : Rm c wE w) (l : List De) (A : Option Addr) (cap : Nat) (hl : l.length ≠ 1) (hown : w.ownsRow 0 100 4 (.slice A l.length cap) l.length (desCells l)) :
    Calls Try.prog 81 #[.pointer (some ⟨c.gq, 0, none⟩), .slice A l.length cap] w (NameP c w (some l)) := by
  have HE := Lib.hid h.enter
  have HO := Lib.hid hown
  have hn : ((l.length : Int) == 1) = false := by simp; omega
  clear h hown hl
  go_enter Try.func81, Try.ntmps81
  go_wp2_with fail
  go_ret
  exact ⟨HE.out, A, cap, rfl, HO.out⟩
set_option maxRecDepth 100000 in
set_option maxHeartbeats 1600000 in
theorem naming_one {c : Ctx} {wE w : World} (h : Rm c wE w) (d : De) (hd : d.Ok) (gr cap : Nat) (hown : w.ownsRow 0 100 4 (.slice (some ⟨gr, 0, none⟩) 1 cap) 1 (desCells [d])) :
    Calls Try.prog 81 #[.pointer (some ⟨c.gq, 0, none⟩), .slice (some ⟨gr, 0, none⟩) 1 cap] w (NameP c w (nameV c.xs [d])) := by
  have HE := Lib.hid h.enter
  have HO := Lib.hid hown
  have hrow := hown.cells (g := gr) rfl
  have hltg := (hown.lt gr rfl).2
  have hcl := desCells_at [d] 0 (by simp)
  simp only [List.getElem_cons_zero] at hcl
  have r0 := hrow _ _ hcl.1
  have r1 := hrow _ _ hcl.2.1
  have r2 := hrow _ _ hcl.2.2.1
  have r3 := hrow _ _ hcl.2.2.2
  rw [addr_zero] at r0 r1 r2 r3
  simp only [Nat.zero_mul, Nat.zero_add] at r0 r1 r2 r3
  have HB := fun W => has_any d hd 4 (.inr (.inr rfl)) W
  have HT := fun W (h : Rm c W W) => table_any h d hd
  obtain ⟨V, hV⟩ : ∃ V, (if tabOk c.xs d then some (tabL c.xs d) else none) = V := ⟨_, rfl⟩
  cases hb : d.bit 4
  · rw [nameV_one _ _ hb]
    rw [hb] at HB
    unfold De.v at HB
    have HB := Lib.hid HB
    clear h hown hrow hcl hb HT hV
    go_enter Try.func81, Try.ntmps81
    go_wp2_with fail
    refine (HB.out _).mono ?_
    rintro e w1 ⟨rfl, hq⟩
    go_wp2_with fail
    go_ret
    exact ⟨HE.out.below hq, some ⟨gr, 0, none⟩, cap, rfl, own_same HO.out (fun k hk => hq.block k (HO.out.lt k hk).2)⟩
  · rw [nameV_tab _ _ hb]
    rw [hb] at HB
    rw [hV] at HT ⊢
    unfold De.v at HB HT
    have HB := Lib.hid HB
    have HT := Lib.hid HT
    clear h hown hrow hcl hb hV
    go_enter Try.func81, Try.ntmps81
    go_wp2_with fail
    refine (HB.out _).mono ?_
    rintro e w1 ⟨rfl, hq⟩
    have R1 := HE.out.below hq
    have r0 := (hq.cell (p := ⟨gr, 0, none⟩) hltg).trans r0
    have r1 := (hq.cell (p := ⟨gr, 1, none⟩) hltg).trans r1
    have r2 := (hq.cell (p := ⟨gr, 2, none⟩) hltg).trans r2
    have r3 := (hq.cell (p := ⟨gr, 3, none⟩) hltg).trans r3
    clear hq
    go_wp2_with fail
    refine (HT.out _ R1.enter).mono ?_
    intro e w2 hL
    obtain ⟨R2, hL⟩ := hL
    have R3 := R1.leave R2
    cases V with
    | none =>
      have he : Bad e := hL
      unfold Bad at he
      subst he
      exact ⟨rfl, R3, rfl⟩
    | some r =>
      obtain ⟨A', cap', rfl, ho⟩ := hL
      have ho := Lib.hid ho
      have R3 := Lib.hid R3
      clear R1 R2
      go_wp2_with fail
      go_ret
      exact ⟨R3.out, A', cap', rfl, own_base ho.out (Nat.zero_le _)⟩
theorem naming_any {c : Ctx} {wE w : World} (h : Rm c wE w) (l : List De) (hl : ∀ d ∈ l, d.Ok) (A : Option Addr) (cap : Nat) (hown : w.ownsRow 0 100 4 (.slice A l.length cap) l.length (desCells l)) :
    Calls Try.prog 81 #[.pointer (some ⟨c.gq, 0, none⟩), .slice A l.length cap] w (NameP c w (nameV c.xs l)) := by
  by_cases k : l.length = 1
  · match l, k with
    | [d], _ =>
      obtain ⟨gr, cap', he, _, _⟩ := hown.form (by simp)
      injection he with h1 h2 h3
      subst h1 h3
      exact naming_one h d (hl d (by simp)) gr _ hown
  · rw [nameV_more _ _ k]
    exact naming_more h l A cap k hown

/-! parts -/
def PartsP (c : Ctx) (w : World) (V : Option (List Pt)) (e : Ending) (w' : World) : Prop :=
  Rm c w w' ∧ match V with
  | none => Bad e
  | some l => ∃ A cap, e = .returned (.slice A l.length cap) ∧ w'.ownsRow w.heap.size 77 3 (.slice A l.length cap) l.length (ptCells l)
structure PartsL (c : Ctx) (w : World) (A : Option Addr) (cap : Nat) (l : List De) (V : Option (List Pt)) (s : Value) (acc : List Pt) (k : Nat) (b : Bool) (wr : World) : Prop where
  rm : Rm c w wr
  row : wr.ownsRow 0 100 4 (.slice A l.length cap) l.length (desCells l)
  own : wr.ownsRow w.heap.size 77 3 s acc.length (ptCells acc)
  go : (partsGo c.xs (l.drop k) b).map (acc ++ ·) = V
  len : acc.length = k
theorem partsGo_bad {xs : List UInt8} {d : De} {r : List De} {b : Bool} (h : (!d.bit 4 && d.fit xs && (d.bit 2 || !b)) = false) : partsGo xs (d :: r) b = none := by simp [partsGo, h]
theorem partsGo_good {xs : List UInt8} {d : De} {r : List De} {b : Bool} (h : (!d.bit 4 && d.fit xs && (d.bit 2 || !b)) = true) : partsGo xs (d :: r) b = (partsGo xs r (d.bit 2)).map (⟨d.a, d.n, d.bit 2⟩ :: ·) := by simp [partsGo, h]
theorem parts_next {xs : List UInt8} {d : De} {r : List De} {b : Bool} {acc : List Pt} (h : (!d.bit 4 && d.fit xs && (d.bit 2 || !b)) = true) :
    (partsGo xs (d :: r) b).map (acc ++ ·) = (partsGo xs r (d.bit 2)).map ((acc ++ [⟨d.a, d.n, d.bit 2⟩]) ++ ·) := by
  rw [partsGo_good h, Option.map_map]
  congr 1
  funext x
  simp
/-- a round under way: its descriptor in a variable -/
structure PartsB (c : Ctx) (w : World) (A : Option Addr) (cap : Nat) (l : List De) (s : Value) (acc : List Pt) (kb : Nat) (d : De) (W : World) : Prop where
  rm : Rm c w W
  row : W.ownsRow 0 100 4 (.slice A l.length cap) l.length (desCells l)
  own : W.ownsRow w.heap.size 77 3 s acc.length (ptCells acc)
  box : Blk W kb 100 #[.int .u64 (d.a : Int), .int .u32 (d.n : Int), .int .i64 (d.id : Int), .int .i64 (d.f : Int)]
section
variable {c : Ctx} {w W W' : World} {A : Option Addr} {cap kb : Nat} {l : List De} {s : Value} {acc : List Pt} {d : De}
theorem PartsB.below (h : PartsB c w A cap l s acc kb d W) (hq : Below W.heap.size W W') : PartsB c w A cap l s acc kb d W' :=
  ⟨h.rm.below hq, own_same h.row (fun k hk => hq.block k (h.row.lt k hk).2), own_same h.own (fun k hk => hq.block k (h.own.lt k hk).2), h.box.same (hq.block _ h.box.lt)⟩
theorem PartsB.facts (h : PartsB c w A cap l s acc kb d W) : W.cell? ⟨kb, 0, none⟩ = some (.int .u64 (d.a : Int)) ∧ W.cell? ⟨kb, 1, none⟩ = some (.int .u32 (d.n : Int)) ∧ W.cell? ⟨kb, 2, none⟩ = some (.int .i64 (d.id : Int)) ∧ W.cell? ⟨kb, 3, none⟩ = some (.int .i64 (d.f : Int)) ∧ W.cell? ⟨c.gq, 0, none⟩ = some (.pointer (some ⟨c.g, 0, none⟩)) :=
  ⟨h.box.cell 0, h.box.cell 1, h.box.cell 2, h.box.cell 3, h.rm.cells.1⟩
end
set_option maxRecDepth 100000 in
set_option maxHeartbeats 3200000 in
theorem parts_any {c : Ctx} {wE w : World} (h : Rm c wE w) (l : List De) (hl : ∀ d ∈ l, d.Ok) (hlen : l.length ≤ 64) (A : Option Addr) (cap : Nat) (hown : w.ownsRow 0 100 4 (.slice A l.length cap) l.length (desCells l)) :
    Calls Try.prog 80 #[.pointer (some ⟨c.gq, 0, none⟩), .slice A l.length cap] w (PartsP c w (partsGo c.xs l false)) := by
  obtain ⟨lvx, hMx⟩ := h.get
  have hx := Lib.hid hMx.len
  have HE := Lib.hid h.enter
  have HO := Lib.hid hown
  have HL := Lib.hid hl
  obtain ⟨i0, hi, hz0, hz1, hz2⟩ := info_parts Try.info77
  have HI := Lib.hid hi
  have HZ0 := Lib.hid hz0
  have HZ1 := Lib.hid hz1
  have HZ2 := Lib.hid hz2
  obtain ⟨V, hV⟩ : ∃ V, partsGo c.xs l false = V := ⟨_, rfl⟩
  rw [hV]
  have HV : Hid ((partsGo c.xs (l.drop 0) false).map (([] : List Pt) ++ ·) = V) := by
    show _ = _
    rw [List.drop_zero, ← hV]
    simp
  obtain ⟨n, hn⟩ : ∃ n, l.length = n := ⟨_, rfl⟩
  have HN := Lib.hid hn
  rw [hn] at HO hlen ⊢
  clear h hown hl hi hz0 hz1 hz2 hV hMx hn
  go_enter Try.func80, Try.ntmps80
  go_wp2_with fail
  go_loopw [5, 6, 13] (fun s b i wr => ∃ (acc : List Pt) (k : Nat) (v : Bool), k ≤ n ∧ i = .int .i64 (k : Int) ∧ b = .bool v ∧ PartsL c w A cap l V s acc k v wr) (fun _ _ i _ => n - (RowKit.intOf i).toNat)
  case atStart => exact ⟨[], 0, false, Nat.zero_le _, rfl, rfl, HE.out, by rw [HN.out]; exact HO.out, World.ownsRow_nil _ _ _ _, HV.out, rfl⟩
  case round =>
    obtain ⟨acc, k, v, hk, rfl, rfl, RL⟩ := hrel
    obtain ⟨A2, cap2, rfl⟩ := own_form RL.own
    by_cases hkn : k < n
    · obtain ⟨gr, cap', he, _, hltg⟩ := RL.row.form (by rw [HN.out]; omega)
      injection he with h1 h2 h3
      subst h1 h3
      have hkl : k < l.length := by rw [HN.out]; exact hkn
      obtain ⟨d, hd⟩ : ∃ d, l[k] = d := ⟨_, rfl⟩
      have hdrop : l.drop k = d :: l.drop (k + 1) := by rw [← hd]; exact List.drop_eq_getElem_cons hkl
      have hok : d.Ok := by rw [← hd]; exact HL.out _ (List.getElem_mem hkl)
      have hcl := desCells_at l k hkl
      rw [hd] at hcl
      have hrow := RL.row.cells (g := gr) rfl
      have r0 := hrow _ _ hcl.1
      have r1 := hrow _ _ hcl.2.1
      have r2 := hrow _ _ hcl.2.2.1
      have r3 := hrow _ _ hcl.2.2.2
      rw [addr_zero] at r0 r1 r2 r3
      have H4 := fun W => has_any d hok 4 (.inr (.inr rfl)) W
      have H2 := fun W => has_any d hok 2 (.inr (.inl rfl)) W
      have HP := fun W => place_any d hok W
      have HM := fun W (h : Rm c W W) => h.may (plA d) (d.n : Int) (by have := hok.n; omega)
      rw [may_place hx.out d hok] at HM
      have hgo := RL.go
      rw [hdrop] at hgo
      have hlt := RL.rm.lt
      have hne := Nat.ne_of_lt hlt
      have hacc := RL.len
      have hdn := hok.n
      unfold De.v at H4 H2 HP
      have B0 : PartsB c w (some ⟨gr, 0, none⟩) cap l (.slice A2 acc.length cap2) acc wr.heap.size d (wr.alloc (.cells #[.int .u64 (d.a : Int), .int .u32 (d.n : Int), .int .i64 (d.id : Int), .int .i64 (d.f : Int)] 100)) :=
        ⟨RL.rm.alloc _, RL.row.alloc _, RL.own.alloc _, Blk.new _ _ _⟩
      have B0 := Lib.hid B0
      have Hgo := Lib.hid hgo
      have HP := Lib.hid HP
      have Hacc := Lib.hid hacc
      rw [hacc]
      clear hcl hrow RL hgo hd hdrop hok hkl hacc
      cases e4 : d.bit 4
      · rw [e4] at H4
        have H4 := Lib.hid H4
        by_cases k1 : 0 < d.n
        · have q1 : (0 : Int) < (d.n : Int) := by omega
          by_cases k2 : d.a + d.n ≤ c.xs.length
          · have hpl : plA d = (d.a : Int) := by have := hx.out; unfold plA; rw [if_pos (by omega)]
            rw [decide_eq_true k2, hpl] at HM
            have HP := HP.out
            rw [hpl] at HP
            have HP := Lib.hid HP
            have HM := Lib.hid HM
            have hfit : d.fit c.xs = true := by unfold De.fit; exact decide_eq_true ⟨k1, k2⟩
            have hda : (d.a : Int) ≤ 1048576 := by have := hx.out; omega
            have hdn2 : (d.n : Int) ≤ 1048576 := by have := hx.out; omega
            cases e2 : d.bit 2
            · rw [e2] at H2
              have H2 := Lib.hid H2
              cases v with
              | true =>
                obtain rfl : none = V := by
                  rw [← Hgo.out, partsGo_bad (by rw [e4, e2, hfit]; rfl)]
                  rfl
                clear e4 e2 k1 k2 hpl hfit

                go_wp2_with fail
                refine (HP.out _).mono ?_
                rintro e w1 ⟨rfl, hq⟩
                have B1 := Lib.hid (B0.out.below hq)
                clear hq
                obtain ⟨b0, b1, b2, b3, p0⟩ := B1.out.facts
                go_wp2_with fail

                refine (H4.out _).mono ?_
                rintro e w2 ⟨rfl, hq⟩
                have B2 := Lib.hid (B1.out.below hq)
                clear hq
                obtain ⟨b0, b1, b2, b3, p0⟩ := B2.out.facts
                go_wp2_with fail

                refine (HM.out _ B2.out.rm.enter).mono ?_
                rintro e w3 ⟨rfl, rfl⟩
                go_wp2_with fail

                refine (req_yes _).mono ?_
                rintro e w4 ⟨rfl, rfl⟩
                go_wp2_with fail

                refine (H2.out _).mono ?_
                rintro e w5 ⟨rfl, hq⟩
                have B5 := Lib.hid (B2.out.below hq)
                clear hq
                obtain ⟨b0, b1, b2, b3, p0⟩ := B5.out.facts
                go_wp2_with fail

                refine (req_no _).mono ?_
                rintro e w6 ⟨he, rfl⟩
                unfold Bad at he
                subst he
                exact ⟨rfl, B5.out.rm, rfl⟩
              | false =>
                have Hgo2 := Lib.hid ((parts_next (by rw [e4, e2, hfit]; rfl)).symm.trans Hgo.out)
                rw [e2] at Hgo2
                clear e4 e2 k1 k2 hpl hfit

                go_wp2_with fail
                refine (HP.out _).mono ?_
                rintro e w1 ⟨rfl, hq⟩
                have B1 := Lib.hid (B0.out.below hq)
                clear hq
                obtain ⟨b0, b1, b2, b3, p0⟩ := B1.out.facts
                go_wp2_with fail

                refine (H4.out _).mono ?_
                rintro e w2 ⟨rfl, hq⟩
                have B2 := Lib.hid (B1.out.below hq)
                clear hq
                obtain ⟨b0, b1, b2, b3, p0⟩ := B2.out.facts
                go_wp2_with fail

                refine (HM.out _ B2.out.rm.enter).mono ?_
                rintro e w3 ⟨rfl, rfl⟩
                go_wp2_with fail

                refine (req_yes _).mono ?_
                rintro e w4 ⟨rfl, rfl⟩
                go_wp2_with fail

                refine (H2.out _).mono ?_
                rintro e w5 ⟨rfl, hq⟩
                have B5 := Lib.hid (B2.out.below hq)
                clear hq
                obtain ⟨b0, b1, b2, b3, p0⟩ := B5.out.facts
                go_wp2_with fail

                refine (req_yes _).mono ?_
                rintro e w6 ⟨rfl, rfl⟩
                go_wp2_with fail

                refine (H2.out _).mono ?_
                rintro e w7 ⟨rfl, hq⟩
                have B7 := B5.out.below hq
                clear hq b0 b1 b2 b3 p0
                have R7 := B7.rm.alloc (.cells #[.int .i64 (d.a : Int), .int .i64 (d.n : Int), .bool false] 77)
                have O7 := B7.own.alloc (.cells #[.int .i64 (d.a : Int), .int .i64 (d.n : Int), .bool false] 77)
                have L7 := B7.row.alloc (.cells #[.int .i64 (d.a : Int), .int .i64 (d.n : Int), .bool false] 77)
                rw [Hacc.out] at O7
                have hnews := World.news_of_block (w := w7.alloc (.cells #[.int .i64 (d.a : Int), .int .i64 (d.n : Int), .bool false] 77)) (heap_alloc_new w7 _)
                have hbase := R7.keep.size
                have R7 := Lib.hid R7
                have O7 := Lib.hid O7
                have L7 := Lib.hid L7
                have HW := Lib.hid hnews
                have hk64 : k ≤ 64 := by omega
                clear hnews B7
                go_wp2_with (at_builtin; refine wpList_append_lies _ rfl (.tmp 48) (.tmp 53) 37 rfl w.heap.size 77 i0 _ 3 24 Try.underlying37 HI.out HZ0.out HZ1.out HZ2.out rfl (by decide) (.slice A2 k cap2) k (ptCells acc) rfl O7.out ⟨w7.heap.size, 0, none⟩ 1 1 (Pt.cells ⟨d.a, d.n, false⟩) rfl rfl HW.out (pt_one _) (by decide) (by unfold maxLen; omega) (by omega) hbase (w7.heap.size + 1) (by simp) ?_; intro g2 cap3 w8 hown hgrow hat hlt2)
                have R8 := R7.out.grown O7.out (Nat.le_refl _) hgrow (by decide) (by decide) (by decide) (by decide)
                have L8 := own_same L7.out (fun j hj => hgrow.block j (L7.out.lt j hj).2 (fun e1 => by
                  have e2 : j = gr := by simpa [Value.ownBlock] using hj.symm
                  subst e2
                  rcases L7.out.2 with ⟨h', _⟩ | ⟨g', cap', cur, h', _, hh, _⟩
                  · simp at h'
                  · have : j = g' := by simp at h'; exact h'.1
                    subst this
                    exact own_ne O7.out (show Blk _ j 100 cur from hh) (by decide) e1.symm))
                have H8 := Lib.hid hown
                have R8 := Lib.hid R8
                have L8 := Lib.hid L8
                clear hgrow hat hown
                go_roundw
                case rel =>
                  refine ⟨acc ++ [⟨d.a, d.n, false⟩], k + 1, false, by omega, by go_num, rfl, R8.out, L8.out, ?_, Hgo2.out, by rw [List.length_append, Hacc.out]; rfl⟩
                  rw [List.length_append, Hacc.out, ptCells_append]
                  have := H8.out
                  simpa [ptCells] using this
                case measure => simp [RowKit.intOf]; omega
            · rw [e2] at H2
              have H2 := Lib.hid H2
              have Hgo2 := Lib.hid ((parts_next (by rw [e4, e2, hfit]; rfl)).symm.trans Hgo.out)
              rw [e2] at Hgo2
              clear e4 e2 k1 k2 hpl hfit

              go_wp2_with fail
              refine (HP.out _).mono ?_
              rintro e w1 ⟨rfl, hq⟩
              have B1 := Lib.hid (B0.out.below hq)
              clear hq
              obtain ⟨b0, b1, b2, b3, p0⟩ := B1.out.facts
              go_wp2_with fail

              refine (H4.out _).mono ?_
              rintro e w2 ⟨rfl, hq⟩
              have B2 := Lib.hid (B1.out.below hq)
              clear hq
              obtain ⟨b0, b1, b2, b3, p0⟩ := B2.out.facts
              go_wp2_with fail

              refine (HM.out _ B2.out.rm.enter).mono ?_
              rintro e w3 ⟨rfl, rfl⟩
              go_wp2_with fail

              refine (req_yes _).mono ?_
              rintro e w4 ⟨rfl, rfl⟩
              go_wp2_with fail

              refine (H2.out _).mono ?_
              rintro e w5 ⟨rfl, hq⟩
              have B5 := Lib.hid (B2.out.below hq)
              clear hq
              obtain ⟨b0, b1, b2, b3, p0⟩ := B5.out.facts
              go_wp2_with fail

              refine (req_yes _).mono ?_
              rintro e w6 ⟨rfl, rfl⟩
              go_wp2_with fail

              refine (H2.out _).mono ?_
              rintro e w7 ⟨rfl, hq⟩
              have B7 := B5.out.below hq
              clear hq b0 b1 b2 b3 p0
              have R7 := B7.rm.alloc (.cells #[.int .i64 (d.a : Int), .int .i64 (d.n : Int), .bool true] 77)
              have O7 := B7.own.alloc (.cells #[.int .i64 (d.a : Int), .int .i64 (d.n : Int), .bool true] 77)
              have L7 := B7.row.alloc (.cells #[.int .i64 (d.a : Int), .int .i64 (d.n : Int), .bool true] 77)
              rw [Hacc.out] at O7
              have hnews := World.news_of_block (w := w7.alloc (.cells #[.int .i64 (d.a : Int), .int .i64 (d.n : Int), .bool true] 77)) (heap_alloc_new w7 _)
              have hbase := R7.keep.size
              have R7 := Lib.hid R7
              have O7 := Lib.hid O7
              have L7 := Lib.hid L7
              have HW := Lib.hid hnews
              have hk64 : k ≤ 64 := by omega
              clear hnews B7
              go_wp2_with (at_builtin; refine wpList_append_lies _ rfl (.tmp 48) (.tmp 53) 37 rfl w.heap.size 77 i0 _ 3 24 Try.underlying37 HI.out HZ0.out HZ1.out HZ2.out rfl (by decide) (.slice A2 k cap2) k (ptCells acc) rfl O7.out ⟨w7.heap.size, 0, none⟩ 1 1 (Pt.cells ⟨d.a, d.n, true⟩) rfl rfl HW.out (pt_one _) (by decide) (by unfold maxLen; omega) (by omega) hbase (w7.heap.size + 1) (by simp) ?_; intro g2 cap3 w8 hown hgrow hat hlt2)
              have R8 := R7.out.grown O7.out (Nat.le_refl _) hgrow (by decide) (by decide) (by decide) (by decide)
              have L8 := own_same L7.out (fun j hj => hgrow.block j (L7.out.lt j hj).2 (fun e1 => by
                have e2 : j = gr := by simpa [Value.ownBlock] using hj.symm
                subst e2
                rcases L7.out.2 with ⟨h', _⟩ | ⟨g', cap', cur, h', _, hh, _⟩
                · simp at h'
                · have : j = g' := by simp at h'; exact h'.1
                  subst this
                  exact own_ne O7.out (show Blk _ j 100 cur from hh) (by decide) e1.symm))
              have H8 := Lib.hid hown
              have R8 := Lib.hid R8
              have L8 := Lib.hid L8
              clear hgrow hat hown
              go_roundw
              case rel =>
                refine ⟨acc ++ [⟨d.a, d.n, true⟩], k + 1, true, by omega, by go_num, rfl, R8.out, L8.out, ?_, Hgo2.out, by rw [List.length_append, Hacc.out]; rfl⟩
                rw [List.length_append, Hacc.out, ptCells_append]
                have := H8.out
                simpa [ptCells] using this
              case measure => simp [RowKit.intOf]; omega
          · rw [decide_eq_false k2] at HM
            have HM := Lib.hid HM
            obtain rfl : none = V := by
              rw [← Hgo.out, partsGo_bad (by rw [show d.fit c.xs = false from decide_eq_false (fun h => k2 h.2)]; simp)]
              rfl
            clear e4 k1 k2

            go_wp2_with fail
            refine (HP.out _).mono ?_
            rintro e w1 ⟨rfl, hq⟩
            have B1 := Lib.hid (B0.out.below hq)
            clear hq
            obtain ⟨b0, b1, b2, b3, p0⟩ := B1.out.facts
            go_wp2_with fail

            refine (H4.out _).mono ?_
            rintro e w2 ⟨rfl, hq⟩
            have B2 := Lib.hid (B1.out.below hq)
            clear hq
            obtain ⟨b0, b1, b2, b3, p0⟩ := B2.out.facts
            go_wp2_with fail

            refine (HM.out _ B2.out.rm.enter).mono ?_
            rintro e w3 ⟨rfl, rfl⟩
            go_wp2_with fail

            refine (req_no _).mono ?_
            rintro e w6 ⟨he, rfl⟩
            unfold Bad at he
            subst he
            exact ⟨rfl, B2.out.rm, rfl⟩
        · have q1 : ¬ (0 : Int) < (d.n : Int) := by omega
          have q2 : (d.n : Int) ≤ 0 := by omega
          obtain rfl : none = V := by
            rw [← Hgo.out, partsGo_bad (by rw [show d.fit c.xs = false from decide_eq_false (fun h => k1 h.1)]; simp)]
            rfl
          clear e4 k1

          go_wp2_with fail
          refine (HP.out _).mono ?_
          rintro e w1 ⟨rfl, hq⟩
          have B1 := Lib.hid (B0.out.below hq)
          clear hq
          obtain ⟨b0, b1, b2, b3, p0⟩ := B1.out.facts
          go_wp2_with fail

          refine (H4.out _).mono ?_
          rintro e w2 ⟨rfl, hq⟩
          have B2 := Lib.hid (B1.out.below hq)
          clear hq
          obtain ⟨b0, b1, b2, b3, p0⟩ := B2.out.facts
          go_wp2_with fail

          refine (req_no _).mono ?_
          rintro e w6 ⟨he, rfl⟩
          unfold Bad at he
          subst he
          exact ⟨rfl, B2.out.rm, rfl⟩
      · rw [e4] at H4
        have H4 := Lib.hid H4
        obtain rfl : none = V := by
          rw [← Hgo.out, partsGo_bad (by rw [e4]; rfl)]
          rfl
        clear e4

        go_wp2_with fail
        refine (HP.out _).mono ?_
        rintro e w1 ⟨rfl, hq⟩
        have B1 := Lib.hid (B0.out.below hq)
        clear hq
        obtain ⟨b0, b1, b2, b3, p0⟩ := B1.out.facts
        go_wp2_with fail

        refine (H4.out _).mono ?_
        rintro e w2 ⟨rfl, hq⟩
        have B2 := Lib.hid (B1.out.below hq)
        clear hq
        obtain ⟨b0, b1, b2, b3, p0⟩ := B2.out.facts
        go_wp2_with fail

        refine (req_no _).mono ?_
        rintro e w6 ⟨he, rfl⟩
        unfold Bad at he
        subst he
        exact ⟨rfl, B2.out.rm, rfl⟩
    · obtain rfl : k = n := by omega
      have HR := Lib.hid RL
      clear RL
      obtain rfl : some acc = V := by
        rw [← HR.out.go, List.drop_eq_nil_of_le (by rw [HN.out]; exact Nat.le_refl _)]
        simp [partsGo]
      go_wp2_with fail
      go_ret
      exact ⟨HR.out.rm, A2, cap2, rfl, HR.out.own⟩
end Go.Proofs.Ytbpgblmhacpjlaa
namespace Go.Proofs.Ytbpgblmhacpjlaa
open Go.RowKit

def cellF (w : World) (g i : Nat) : Value := (w.cell? ⟨g, i, none⟩).getD undef
theorem cellF_of {w : World} {g i : Nat} {v : Value} (h : w.cell? ⟨g, i, none⟩ = some v) : w.cell? ⟨g, i, none⟩ = some (cellF w g i) := by unfold cellF; rw [h]; rfl
/-- what chain answers -/
def ChainP (c : Ctx) (w : World) (V : Option Ch) (e : Ending) (w' : World) : Prop :=
  Rm c w w' ∧ match V with
  | none => Bad e
  | some h => ∃ A cap, e = .returned (.agg #[.int .i64 (h.id : Int), .int .i64 (h.count : Int), .slice A h.parts.length cap]) ∧ w'.ownsRow w.heap.size 77 3 (.slice A h.parts.length cap) h.parts.length (ptCells h.parts)
theorem three_results (f : Func) (w : World) (tmps : Array Value) (t : Tmp) (gf : Nat) (hf : f.results = #[.cell t 44]) (h : tmps[t]?.getD undef = .pointer (some ⟨gf, 0, none⟩)) (a b c : Value)
    (hF : Blk w gf 44 #[a, b, c]) : (results f tmps).run Try.prog w = .ok (.agg #[a, b, c]) w := by
  have c0 := hF.cell 0
  have c1 := hF.cell 1
  have c2 := hF.cell 2
  simp only [List.getElem?_toArray, List.getElem?_cons_zero, List.getElem?_cons_succ] at c0 c1 c2
  simp [results, hf, go_sem, h, c0, c1, c2]
/-- chain's last part under way -/
structure CB (c : Ctx) (w : World) (gr cap k nl : Nat) (l : List De) (W : World) : Prop where
  rm : Rm c w W
  own : W.ownsRow 0 100 4 (.slice (some ⟨gr, 0, none⟩) nl cap) nl (desCells l)
  blk : ∃ x y z, Blk W k 44 #[x, y, z]
  ge : w.heap.size ≤ k
def CH (c : Ctx) (w : World) (gr cap k nl j : Nat) (l : List De) (id : Value) (W : World) : Prop :=
  (W.cell? ⟨gr, j, none⟩ = some id ∧ W.cell? ⟨k, 0, none⟩ = some (cellF W k 0) ∧ W.cell? ⟨k, 1, none⟩ = some (cellF W k 1) ∧ W.cell? ⟨k, 2, none⟩ = some (cellF W k 2) ∧ W.frozen? ⟨k, 0, none⟩ = false ∧ W.frozen? ⟨k, 1, none⟩ = false ∧ W.frozen? ⟨k, 2, none⟩ = false) ∧ CB c w gr cap k nl l W
section
variable {c : Ctx} {w W W' : World} {gr cap k nl j : Nat} {l : List De} {id : Value}
theorem CH.of (h : CB c w gr cap k nl l W) (hi : (desCells l)[j]? = some id) : CH c w gr cap k nl j l id W := by
  obtain ⟨x, y, z, hb⟩ := h.blk
  have := h.own.cells (g := gr) rfl j id hi
  rw [addr_zero] at this
  exact ⟨⟨this, cellF_of (hb.cell 0), cellF_of (hb.cell 1), cellF_of (hb.cell 2), hb.frozen 0, hb.frozen 1, hb.frozen 2⟩, h⟩
theorem CB.on (h : CB c w gr cap k nl l W) (hr : Rm c W W') : CB c w gr cap k nl l W' := by
  obtain ⟨x, y, z, hb⟩ := h.blk
  exact ⟨h.rm.leave hr, own_keep h.own hr.keep (by decide) (by decide) (by decide), ⟨x, y, z, hb.keep hr.keep (by decide) (by decide) (by decide)⟩, h.ge⟩
theorem CB.drew (h : CB c w gr cap k nl l W) : CB c w gr cap k nl l W.drew := h.on h.rm.enter.drew
theorem CB.store (h : CB c w gr cap k nl l W) (a b d : Value) : CB c w gr cap k nl l (((W.setCell ⟨k, 0, none⟩ a).setCell ⟨k, 1, none⟩ b).setCell ⟨k, 2, none⟩ d) ∧ Blk (((W.setCell ⟨k, 0, none⟩ a).setCell ⟨k, 1, none⟩ b).setCell ⟨k, 2, none⟩ d) k 44 #[a, b, d] := by
  obtain ⟨x, y, z, hb⟩ := h.blk
  have k1 := hb.put 0 a
  have k2 := k1.put 1 b
  have k3 := k2.put 2 d
  have k4 : Blk (((W.setCell ⟨k, 0, none⟩ a).setCell ⟨k, 1, none⟩ b).setCell ⟨k, 2, none⟩ d) k 44 #[a, b, d] := by simpa using k3
  refine ⟨⟨((h.rm.put hb h.ge (by decide) (by decide) (by decide) (by decide) 0 a).put k1 h.ge (by decide) (by decide) (by decide) (by decide) 1 b).put k2 h.ge (by decide) (by decide) (by decide) (by decide) 2 d, ?_, ⟨_, _, _, k4⟩, h.ge⟩, k4⟩
  refine own_same h.own (fun i hi => ?_)
  have hne : i ≠ k := fun e => own_ne h.own hb (by decide) (e ▸ hi)
  rw [Below.heap_setCell _ _ _ _ hne, Below.heap_setCell _ _ _ _ hne, Below.heap_setCell _ _ _ _ hne]
end
set_option maxRecDepth 100000 in
set_option maxHeartbeats 3200000 in
theorem chain_some {c : Ctx} {wE w : World} (h : Rm c wE w) (hq : c.q.Ok c.xs.length) (d0 : De) (hd : d0.Ok) (hout : c.q.out < c.q.size) (l n : List De) (p : List Pt)
    (h1 : ringGo c.xs c.q.ring c.q.size (allowed c.q - 1) c.q.na [] d0 = some l) (h2 : nameV c.xs l = some n) (h3 : partsGo c.xs n false = some p) (hl : ∀ d ∈ l, d.Ok) (hn : n.length ≤ 64) (hl2 : 1 ≤ l.length ∧ l.length ≤ 64) :
    Calls Try.prog 65 #[.pointer (some ⟨c.gq, 0, none⟩), d0.v] w (ChainP c w (some ⟨lastId l, l.length, p⟩)) := by
  have HE := Lib.hid h.enter
  have HR := fun W (h : Rm c W W) => rest_any h hq d0 hd hout
  have HN := fun W (h : Rm c W W) A cap (ho : W.ownsRow 0 100 4 (.slice A l.length cap) l.length (desCells l)) => naming_any h l hl A cap ho
  have HP := fun W (h : Rm c W W) A cap (ho : W.ownsRow 0 100 4 (.slice A n.length cap) n.length (desCells n)) => parts_any h n (nameV_ok h2 hl) hn A cap ho
  rw [h1] at HR
  rw [h2] at HN
  rw [h3] at HP
  have HR := Lib.hid HR
  have HN' := HN
  clear HN
  have HP := Lib.hid HP
  obtain ⟨m, hm⟩ : ∃ m, l.length = m + 1 := ⟨l.length - 1, by omega⟩
  have hm64 : m ≤ 63 := by omega
  have hid : (desCells l)[m * 4 + 2]? = some (.int .i64 (lastId l : Int)) := by
    have := (desCells_at l m (by omega)).2.2.1
    rw [this]
    have e : l.getLast? = some l[m] := by
      have h5 : l.length - 1 = m := by omega
      rw [List.getLast?_eq_getElem?, List.getElem?_eq_some_iff]
      exact ⟨by omega, by simp only [h5]⟩
    unfold lastId
    rw [e]
  obtain ⟨ix, hI⟩ : ∃ ix, (lastId l : Int) = ix := ⟨_, rfl⟩
  unfold ChainP
  simp only
  rw [hI] at hid ⊢
  rw [hm] at HN' ⊢
  rw [show ((m + 1 : Nat) : Int) = (m : Int) + 1 by omega]
  have HN := Lib.hid HN'
  clear HN'
  have HID := Lib.hid hid
  have Hm := Lib.hid hm
  clear h hq hd h1 h2 h3 hl hl2 hm hid hI
  unfold De.v at HR ⊢
  go_enter Try.func65, Try.ntmps65
  go_wp2_with fail
  refine (HR.out _ ((HE.out.alloc _).alloc _).enter).mono ?_
  intro e w1 hL
  obtain ⟨R1, A, cap, rfl, own⟩ := hL
  obtain ⟨gr, cap', he, hge, hltg⟩ := own.form (by rw [Hm.out]; omega)
  injection he with e1 e2 e3
  subst e1 e3
  have C1 : CB c w gr cap (w.heap.size + 1) (m + 1) l w1 :=
    ⟨((HE.out.alloc _).alloc _).leave R1, by have := own_base own (Nat.zero_le _); rwa [Hm.out] at this, ⟨_, _, _, (Sp.Blk.new2 w _ 44 #[.int .i64 0, .int .i64 0, .slice none 0 0]).keep R1.keep (by decide) (by decide) (by decide)⟩, by omega⟩
  have C1 := Lib.hid C1
  clear own R1 hge
  rw [Hm.out]
  go_wp2_with fail
  have v1 : IntKind.i64.wrap ((m : Int) + 1 - 1) = (m : Int) := by rw [IntKind.wrap_i64]; omega
  have v7 : IntKind.i64.wrap (m : Int) = (m : Int) := by rw [IntKind.wrap_i64]; omega
  have v6 : wrap64 (m : Int) = (m : Int) := by unfold wrap64; omega
  have v2 : (0 : Int) ≤ (m : Int) := by omega
  have v4 : m < m + 1 := by omega
  have v5 : (m : Int) < (m : Int) + 1 := by omega
  go_region_held3 (fun W => (W.cell? ⟨gr, m * 4 + 2, none⟩ = some (.int .i64 ix) ∧ W.cell? ⟨w.heap.size + 1, 0, none⟩ = some (cellF W (w.heap.size + 1) 0) ∧ W.cell? ⟨w.heap.size + 1, 1, none⟩ = some (cellF W (w.heap.size + 1) 1) ∧ W.cell? ⟨w.heap.size + 1, 2, none⟩ = some (cellF W (w.heap.size + 1) 2) ∧ W.frozen? ⟨w.heap.size + 1, 0, none⟩ = false ∧ W.frozen? ⟨w.heap.size + 1, 1, none⟩ = false ∧ W.frozen? ⟨w.heap.size + 1, 2, none⟩ = false) ∧ CB c w gr cap (w.heap.size + 1) (m + 1) l W)
    ((refine (id (α := CH c w gr cap (w.heap.size + 1) (m + 1) (m * 4 + 2) l (.int .i64 ix) _) ?_); with_reducible (first | exact CH.of (C1.out.drew.on RN |>.on RP |>.store _ _ _).1 HID.out | exact CH.of C1.out.drew HID.out | exact CH.of (C1.out.drew.on RN) HID.out | exact CH.of (C1.out.drew.on RN |>.on RP) HID.out)))
    (first
      | (go_at_call 81; ((with_reducible refine (HN.out _ C1.out.drew.rm.enter _ _ C1.out.drew.own).mono ?_); rintro e w2 ⟨RN, A2, cap2, rfl, ON⟩))
      | (go_at_call 80; ((with_reducible refine (HP.out _ RN.enter _ _ ON).mono ?_); rintro e w3 ⟨RP, A3, cap3, rfl, OP⟩)))
  have hb3 : w.heap.size ≤ w2.heap.size := by
    have := (C1.out.drew.on RN).rm.keep.size
    exact this
  obtain ⟨CE, kE⟩ := ((C1.out.drew.on RN).on RP).store (.int .i64 ix) (.int .i64 ((m : Int) + 1)) (.slice A3 p.length cap3)
  have OE := own_same (w' := ((w3.setCell ⟨w.heap.size + 1, 0, none⟩ (.int .i64 ix)).setCell ⟨w.heap.size + 1, 1, none⟩ (.int .i64 ((m : Int) + 1))).setCell ⟨w.heap.size + 1, 2, none⟩ (.slice A3 p.length cap3)) OP (fun i hi => by
    obtain ⟨x, y, z, hb⟩ := ((C1.out.drew.on RN).on RP).blk
    have hne : i ≠ w.heap.size + 1 := fun e => own_ne OP hb (by decide) (e ▸ hi)
    rw [Below.heap_setCell _ _ _ _ hne, Below.heap_setCell _ _ _ _ hne, Below.heap_setCell _ _ _ _ hne])
  have CE := Lib.hid CE
  have kE := Lib.hid kE
  have OE := Lib.hid (own_base OE hb3)
  clear OP RP RN ON
  go_wp2_with fail
  exact bodyPost_ret (v := .agg #[.int .i64 ix, .int .i64 ((m : Int) + 1), .slice A3 p.length cap3]) (three_results _ _ _ 4 (w.heap.size + 1) rfl rfl _ _ _ kE.out) rfl ⟨CE.out.rm, A3, cap3, rfl, OE.out⟩
set_option maxRecDepth 100000 in
set_option maxHeartbeats 3200000 in
theorem chain_ring {c : Ctx} {wE w : World} (h : Rm c wE w) (hq : c.q.Ok c.xs.length) (d0 : De) (hd : d0.Ok) (hout : c.q.out < c.q.size)
    (h1 : ringGo c.xs c.q.ring c.q.size (allowed c.q - 1) c.q.na [] d0 = none) :
    Calls Try.prog 65 #[.pointer (some ⟨c.gq, 0, none⟩), d0.v] w (ChainP c w none) := by
  have HE := Lib.hid h.enter
  have HR := fun W (h : Rm c W W) => rest_any h hq d0 hd hout
  rw [h1] at HR
  have HR := Lib.hid HR
  clear h hq hd h1
  unfold De.v at HR ⊢
  go_enter Try.func65, Try.ntmps65
  go_wp2_with fail
  refine (HR.out _ ((HE.out.alloc _).alloc _).enter).mono ?_
  intro e w1 hL
  obtain ⟨R1, he⟩ := hL
  have he : Bad e := he
  unfold Bad at he
  subst he
  exact ⟨rfl, ((HE.out.alloc _).alloc _).leave R1, rfl⟩
set_option maxRecDepth 100000 in
set_option maxHeartbeats 3200000 in
theorem chain_name {c : Ctx} {wE w : World} (h : Rm c wE w) (hq : c.q.Ok c.xs.length) (d0 : De) (hd : d0.Ok) (hout : c.q.out < c.q.size) (l : List De)
    (h1 : ringGo c.xs c.q.ring c.q.size (allowed c.q - 1) c.q.na [] d0 = some l) (h2 : nameV c.xs l = none) (hl : ∀ d ∈ l, d.Ok) (hl2 : 1 ≤ l.length ∧ l.length ≤ 64) :
    Calls Try.prog 65 #[.pointer (some ⟨c.gq, 0, none⟩), d0.v] w (ChainP c w none) := by
  have HE := Lib.hid h.enter
  have HR := fun W (h : Rm c W W) => rest_any h hq d0 hd hout
  have HN := fun W (h : Rm c W W) A cap (ho : W.ownsRow 0 100 4 (.slice A l.length cap) l.length (desCells l)) => naming_any h l hl A cap ho
  rw [h1] at HR
  rw [h2] at HN
  have HR := Lib.hid HR
  have HN' := HN
  clear HN
  obtain ⟨m, hm⟩ : ∃ m, l.length = m + 1 := ⟨l.length - 1, by omega⟩
  have hm64 : m ≤ 63 := by omega
  have hid : (desCells l)[m * 4 + 2]? = some (.int .i64 (lastId l : Int)) := by
    have := (desCells_at l m (by omega)).2.2.1
    rw [this]
    have e : l.getLast? = some l[m] := by
      have h5 : l.length - 1 = m := by omega
      rw [List.getLast?_eq_getElem?, List.getElem?_eq_some_iff]
      exact ⟨by omega, by simp only [h5]⟩
    unfold lastId
    rw [e]
  obtain ⟨ix, hI⟩ : ∃ ix, (lastId l : Int) = ix := ⟨_, rfl⟩
  rw [hI] at hid
  rw [hm] at HN'
  have HN := Lib.hid HN'
  clear HN'
  have HID := Lib.hid hid
  have Hm := Lib.hid hm
  clear h hq hd h1 h2 hl hl2 hm hid hI
  unfold De.v at HR ⊢
  go_enter Try.func65, Try.ntmps65
  go_wp2_with fail
  refine (HR.out _ ((HE.out.alloc _).alloc _).enter).mono ?_
  intro e w1 hL
  obtain ⟨R1, A, cap, rfl, own⟩ := hL
  obtain ⟨gr, cap', he, hge, hltg⟩ := own.form (by rw [Hm.out]; omega)
  injection he with e1 e2 e3
  subst e1 e3
  have C1 : CB c w gr cap (w.heap.size + 1) (m + 1) l w1 :=
    ⟨((HE.out.alloc _).alloc _).leave R1, by have := own_base own (Nat.zero_le _); rwa [Hm.out] at this, ⟨_, _, _, (Sp.Blk.new2 w _ 44 #[.int .i64 0, .int .i64 0, .slice none 0 0]).keep R1.keep (by decide) (by decide) (by decide)⟩, by omega⟩
  have C1 := Lib.hid C1
  clear own R1 hge
  rw [Hm.out]
  go_wp2_with fail
  have v1 : IntKind.i64.wrap ((m : Int) + 1 - 1) = (m : Int) := by rw [IntKind.wrap_i64]; omega
  have v7 : IntKind.i64.wrap (m : Int) = (m : Int) := by rw [IntKind.wrap_i64]; omega
  have v6 : wrap64 (m : Int) = (m : Int) := by unfold wrap64; omega
  have v2 : (0 : Int) ≤ (m : Int) := by omega
  have v4 : m < m + 1 := by omega
  have v5 : (m : Int) < (m : Int) + 1 := by omega
  refine wp_region_held_drew (S := (fun W => W.cell? ⟨gr, m * 4 + 2, none⟩ = some (.int .i64 ix) ∧ CB c w gr cap (w.heap.size + 1) (m + 1) l W)) (by kernel_rfl) ⟨(CH.of C1.out.drew HID.out).1.1, C1.out.drew⟩ (fun hHeld => ?_)
  refine wpAnyH_take (i := 0) (v := .slice (some ⟨gr, 0, none⟩) (m + 1) cap) (by rfl) (by kernel_rfl) (by kernel_rfl) (by kernel_rfl) (by intro _ _ _ h; exact h) (Or.inl ⟨by rfl, ?_⟩) (by assumption) ?_
  · intro W hSw
    try dsimp only at hSw
    go_simp
    try with_reducible rfl
  simp only [Act.put, List.setIfInBounds_toArray]
  refine wpAnyH_take (i := 1) (v := .slice (some ⟨gr, 0, none⟩) (m + 1) cap) (by rfl) (by kernel_rfl) (by kernel_rfl) (by kernel_rfl) (by intro _ _ _ h; exact h) (Or.inl ⟨by rfl, ?_⟩) (by assumption) ?_
  · intro W hSw
    try dsimp only at hSw
    go_simp
    try with_reducible rfl
  simp only [Act.put]
  refine wpAnyH_take (i := 2) (v := .int .i64 ((m : Int) + 1)) (by rfl) (by kernel_rfl) (by kernel_rfl) (by kernel_rfl) (by intro _ _ _ h; exact h) (Or.inl ⟨by rfl, ?_⟩) (by assumption) ?_
  · intro W hSw
    try dsimp only at hSw
    go_simp
    try with_reducible rfl
  simp only [Act.put]
  refine wpAnyH_take (i := 3) (v := .int .i64 (m : Int)) (by rfl) (by kernel_rfl) (by kernel_rfl) (by kernel_rfl) (by intro _ _ _ h; exact h) (Or.inl ⟨by rfl, ?_⟩) (by assumption) ?_
  · intro W hSw
    try dsimp only at hSw
    go_simp
    try with_reducible rfl
  simp only [Act.put]
  refine wpAnyH_take (i := 4) (v := .pointer (some ⟨gr, m * 4, none⟩)) (by rfl) (by kernel_rfl) (by kernel_rfl) (by kernel_rfl) (by intro _ _ _ h; exact h) (Or.inl ⟨by rfl, ?_⟩) (by assumption) ?_
  · intro W hSw
    try dsimp only at hSw
    go_simp
    try with_reducible rfl
  simp only [Act.put]
  refine wpAnyH_take (i := 5) (v := .pointer (some ⟨gr, m * 4 + 2, none⟩)) (by rfl) (by kernel_rfl) (by kernel_rfl) (by kernel_rfl) (by intro _ _ _ h; exact h) (Or.inl ⟨by rfl, ?_⟩) (by assumption) ?_
  · intro W hSw
    try dsimp only at hSw
    go_simp
    try with_reducible rfl
  simp only [Act.put]
  refine wpAnyH_take (i := 6) (v := .int .i64 ix) (by rfl) (by kernel_rfl) (by kernel_rfl) (by kernel_rfl) (by intro _ _ _ h; exact h) (Or.inl ⟨by rfl, ?_⟩) (by assumption) ?_
  · intro W hSw
    try dsimp only at hSw
    go_simp
    try with_reducible rfl
  simp only [Act.put]
  refine wpAnyH_take (i := 7) (v := .slice (some ⟨gr, 0, none⟩) (m + 1) cap) (by rfl) (by kernel_rfl) (by kernel_rfl) (by kernel_rfl) (by intro _ _ _ h; exact h) (Or.inl ⟨by rfl, ?_⟩) (by assumption) ?_
  · intro W hSw
    try dsimp only at hSw
    go_simp
    try with_reducible rfl
  simp only [Act.put]
  refine wpAnyH_take (i := 8) (v := .int .i64 ((m : Int) + 1)) (by rfl) (by kernel_rfl) (by kernel_rfl) (by kernel_rfl) (by intro _ _ _ h; exact h) (Or.inl ⟨by rfl, ?_⟩) (by assumption) ?_
  · intro W hSw
    try dsimp only at hSw
    go_simp
    try with_reducible rfl
  simp only [Act.put]
  refine wpAnyH_take (i := 9) (v := .pointer (some ⟨c.gq, 0, none⟩)) (by rfl) (by kernel_rfl) (by kernel_rfl) (by kernel_rfl) (by intro _ _ _ h; exact h) (Or.inl ⟨by rfl, ?_⟩) (by assumption) ?_
  · intro W hSw
    try dsimp only at hSw
    go_simp
    try with_reducible rfl
  simp only [Act.put]
  refine wpAnyH_take (i := 10) (v := .pointer (some ⟨c.gq, 0, none⟩)) (by rfl) (by kernel_rfl) (by kernel_rfl) (by kernel_rfl) (by intro _ _ _ h; exact h) (Or.inl ⟨by rfl, ?_⟩) (by assumption) ?_
  · intro W hSw
    try dsimp only at hSw
    go_simp
    try with_reducible rfl
  simp only [Act.put]
  refine wpAnyH_take (i := 11) (v := .slice (some ⟨gr, 0, none⟩) (m + 1) cap) (by rfl) (by kernel_rfl) (by kernel_rfl) (by kernel_rfl) (by intro _ _ _ h; exact h) (Or.inl ⟨by rfl, ?_⟩) (by assumption) ?_
  · intro W hSw
    try dsimp only at hSw
    go_simp
    try with_reducible rfl
  simp only [Act.put]
  refine wpAnyH_ready (rs := [12]) (by kernel_rfl) (by simp) ?_
  refine AllReadyH.cons (by rfl) (fun K hK => ?_) AllReadyH.nil
  go_simp
  refine (HN.out _ C1.out.drew.rm.enter _ _ C1.out.drew.own).mono ?_
  intro e w2 hL
  obtain ⟨RN, he⟩ := hL
  have he : Bad e := he
  unfold Bad at he
  subst he
  exact ⟨rfl, (C1.out.drew.on RN).rm, rfl⟩
set_option maxRecDepth 100000 in
set_option maxHeartbeats 3200000 in
theorem chain_part {c : Ctx} {wE w : World} (h : Rm c wE w) (hq : c.q.Ok c.xs.length) (d0 : De) (hd : d0.Ok) (hout : c.q.out < c.q.size) (l n : List De)
    (h1 : ringGo c.xs c.q.ring c.q.size (allowed c.q - 1) c.q.na [] d0 = some l) (h2 : nameV c.xs l = some n) (h3 : partsGo c.xs n false = none) (hl : ∀ d ∈ l, d.Ok) (hn : n.length ≤ 64) (hl2 : 1 ≤ l.length ∧ l.length ≤ 64) :
    Calls Try.prog 65 #[.pointer (some ⟨c.gq, 0, none⟩), d0.v] w (ChainP c w none) := by
  have HE := Lib.hid h.enter
  have HR := fun W (h : Rm c W W) => rest_any h hq d0 hd hout
  have HN := fun W (h : Rm c W W) A cap (ho : W.ownsRow 0 100 4 (.slice A l.length cap) l.length (desCells l)) => naming_any h l hl A cap ho
  have HP := fun W (h : Rm c W W) A cap (ho : W.ownsRow 0 100 4 (.slice A n.length cap) n.length (desCells n)) => parts_any h n (nameV_ok h2 hl) hn A cap ho
  rw [h1] at HR
  rw [h2] at HN
  rw [h3] at HP
  have HR := Lib.hid HR
  have HN' := HN
  clear HN
  have HP := Lib.hid HP
  obtain ⟨m, hm⟩ : ∃ m, l.length = m + 1 := ⟨l.length - 1, by omega⟩
  have hm64 : m ≤ 63 := by omega
  have hid : (desCells l)[m * 4 + 2]? = some (.int .i64 (lastId l : Int)) := by
    have := (desCells_at l m (by omega)).2.2.1
    rw [this]
    have e : l.getLast? = some l[m] := by
      have h5 : l.length - 1 = m := by omega
      rw [List.getLast?_eq_getElem?, List.getElem?_eq_some_iff]
      exact ⟨by omega, by simp only [h5]⟩
    unfold lastId
    rw [e]
  obtain ⟨ix, hI⟩ : ∃ ix, (lastId l : Int) = ix := ⟨_, rfl⟩
  rw [hI] at hid
  rw [hm] at HN'
  have HN := Lib.hid HN'
  clear HN'
  have HID := Lib.hid hid
  have Hm := Lib.hid hm
  clear h hq hd h1 h2 h3 hl hl2 hm hid hI
  unfold De.v at HR ⊢
  go_enter Try.func65, Try.ntmps65
  go_wp2_with fail
  refine (HR.out _ ((HE.out.alloc _).alloc _).enter).mono ?_
  intro e w1 hL
  obtain ⟨R1, A, cap, rfl, own⟩ := hL
  obtain ⟨gr, cap', he, hge, hltg⟩ := own.form (by rw [Hm.out]; omega)
  injection he with e1 e2 e3
  subst e1 e3
  have C1 : CB c w gr cap (w.heap.size + 1) (m + 1) l w1 :=
    ⟨((HE.out.alloc _).alloc _).leave R1, by have := own_base own (Nat.zero_le _); rwa [Hm.out] at this, ⟨_, _, _, (Sp.Blk.new2 w _ 44 #[.int .i64 0, .int .i64 0, .slice none 0 0]).keep R1.keep (by decide) (by decide) (by decide)⟩, by omega⟩
  have C1 := Lib.hid C1
  clear own R1 hge
  rw [Hm.out]
  go_wp2_with fail
  have v1 : IntKind.i64.wrap ((m : Int) + 1 - 1) = (m : Int) := by rw [IntKind.wrap_i64]; omega
  have v7 : IntKind.i64.wrap (m : Int) = (m : Int) := by rw [IntKind.wrap_i64]; omega
  have v6 : wrap64 (m : Int) = (m : Int) := by unfold wrap64; omega
  have v2 : (0 : Int) ≤ (m : Int) := by omega
  have v4 : m < m + 1 := by omega
  have v5 : (m : Int) < (m : Int) + 1 := by omega
  refine wp_region_held_drew (S := (fun W => W.cell? ⟨gr, m * 4 + 2, none⟩ = some (.int .i64 ix) ∧ CB c w gr cap (w.heap.size + 1) (m + 1) l W)) (by kernel_rfl) ⟨(CH.of C1.out.drew HID.out).1.1, C1.out.drew⟩ (fun hHeld => ?_)
  refine wpAnyH_take (i := 0) (v := .slice (some ⟨gr, 0, none⟩) (m + 1) cap) (by rfl) (by kernel_rfl) (by kernel_rfl) (by kernel_rfl) (by intro _ _ _ h; exact h) (Or.inl ⟨by rfl, ?_⟩) (by assumption) ?_
  · intro W hSw
    try dsimp only at hSw
    go_simp
    try with_reducible rfl
  simp only [Act.put, List.setIfInBounds_toArray]
  refine wpAnyH_take (i := 1) (v := .slice (some ⟨gr, 0, none⟩) (m + 1) cap) (by rfl) (by kernel_rfl) (by kernel_rfl) (by kernel_rfl) (by intro _ _ _ h; exact h) (Or.inl ⟨by rfl, ?_⟩) (by assumption) ?_
  · intro W hSw
    try dsimp only at hSw
    go_simp
    try with_reducible rfl
  simp only [Act.put]
  refine wpAnyH_take (i := 2) (v := .int .i64 ((m : Int) + 1)) (by rfl) (by kernel_rfl) (by kernel_rfl) (by kernel_rfl) (by intro _ _ _ h; exact h) (Or.inl ⟨by rfl, ?_⟩) (by assumption) ?_
  · intro W hSw
    try dsimp only at hSw
    go_simp
    try with_reducible rfl
  simp only [Act.put]
  refine wpAnyH_take (i := 3) (v := .int .i64 (m : Int)) (by rfl) (by kernel_rfl) (by kernel_rfl) (by kernel_rfl) (by intro _ _ _ h; exact h) (Or.inl ⟨by rfl, ?_⟩) (by assumption) ?_
  · intro W hSw
    try dsimp only at hSw
    go_simp
    try with_reducible rfl
  simp only [Act.put]
  refine wpAnyH_take (i := 4) (v := .pointer (some ⟨gr, m * 4, none⟩)) (by rfl) (by kernel_rfl) (by kernel_rfl) (by kernel_rfl) (by intro _ _ _ h; exact h) (Or.inl ⟨by rfl, ?_⟩) (by assumption) ?_
  · intro W hSw
    try dsimp only at hSw
    go_simp
    try with_reducible rfl
  simp only [Act.put]
  refine wpAnyH_take (i := 5) (v := .pointer (some ⟨gr, m * 4 + 2, none⟩)) (by rfl) (by kernel_rfl) (by kernel_rfl) (by kernel_rfl) (by intro _ _ _ h; exact h) (Or.inl ⟨by rfl, ?_⟩) (by assumption) ?_
  · intro W hSw
    try dsimp only at hSw
    go_simp
    try with_reducible rfl
  simp only [Act.put]
  refine wpAnyH_take (i := 6) (v := .int .i64 ix) (by rfl) (by kernel_rfl) (by kernel_rfl) (by kernel_rfl) (by intro _ _ _ h; exact h) (Or.inl ⟨by rfl, ?_⟩) (by assumption) ?_
  · intro W hSw
    try dsimp only at hSw
    go_simp
    try with_reducible rfl
  simp only [Act.put]
  refine wpAnyH_take (i := 7) (v := .slice (some ⟨gr, 0, none⟩) (m + 1) cap) (by rfl) (by kernel_rfl) (by kernel_rfl) (by kernel_rfl) (by intro _ _ _ h; exact h) (Or.inl ⟨by rfl, ?_⟩) (by assumption) ?_
  · intro W hSw
    try dsimp only at hSw
    go_simp
    try with_reducible rfl
  simp only [Act.put]
  refine wpAnyH_take (i := 8) (v := .int .i64 ((m : Int) + 1)) (by rfl) (by kernel_rfl) (by kernel_rfl) (by kernel_rfl) (by intro _ _ _ h; exact h) (Or.inl ⟨by rfl, ?_⟩) (by assumption) ?_
  · intro W hSw
    try dsimp only at hSw
    go_simp
    try with_reducible rfl
  simp only [Act.put]
  refine wpAnyH_take (i := 9) (v := .pointer (some ⟨c.gq, 0, none⟩)) (by rfl) (by kernel_rfl) (by kernel_rfl) (by kernel_rfl) (by intro _ _ _ h; exact h) (Or.inl ⟨by rfl, ?_⟩) (by assumption) ?_
  · intro W hSw
    try dsimp only at hSw
    go_simp
    try with_reducible rfl
  simp only [Act.put]
  refine wpAnyH_take (i := 10) (v := .pointer (some ⟨c.gq, 0, none⟩)) (by rfl) (by kernel_rfl) (by kernel_rfl) (by kernel_rfl) (by intro _ _ _ h; exact h) (Or.inl ⟨by rfl, ?_⟩) (by assumption) ?_
  · intro W hSw
    try dsimp only at hSw
    go_simp
    try with_reducible rfl
  simp only [Act.put]
  refine wpAnyH_take (i := 11) (v := .slice (some ⟨gr, 0, none⟩) (m + 1) cap) (by rfl) (by kernel_rfl) (by kernel_rfl) (by kernel_rfl) (by intro _ _ _ h; exact h) (Or.inl ⟨by rfl, ?_⟩) (by assumption) ?_
  · intro W hSw
    try dsimp only at hSw
    go_simp
    try with_reducible rfl
  simp only [Act.put]
  refine wpAnyH_ready (rs := [12]) (by kernel_rfl) (by simp) ?_
  refine AllReadyH.cons (by rfl) (fun K hK => ?_) AllReadyH.nil
  go_simp
  refine (HN.out _ C1.out.drew.rm.enter _ _ C1.out.drew.own).mono ?_
  rintro e w2 ⟨RN, A2, cap2, rfl, ON⟩
  refine hK.out _ _ ⟨(CH.of (C1.out.drew.on RN) HID.out).1.1, C1.out.drew.on RN⟩ (fun hHeld => ?_)
  clear hK K
  refine wpAnyH_ready (rs := [13]) (by kernel_rfl) (by simp) ?_
  refine AllReadyH.cons (by rfl) (fun K hK => ?_) AllReadyH.nil
  go_simp
  refine (HP.out _ RN.enter _ _ ON).mono ?_
  intro e w3 hL
  obtain ⟨RP, he⟩ := hL
  have he : Bad e := he
  unfold Bad at he
  subst he
  exact ⟨rfl, ((C1.out.drew.on RN).on RP).rm, rfl⟩
end Go.Proofs.Ytbpgblmhacpjlaa
namespace Go.Proofs.Ytbpgblmhacpjlaa
open Go.RowKit

theorem ringGo_ok {xs : List UInt8} {ring size : Nat} (hr : ring + 16 * size ≤ xs.length) (hs : 1 ≤ size) : ∀ {f a : Nat} {l : List De} {d : De} {r : List De}, a < size → (∀ x ∈ l, x.Ok) → d.Ok → ringGo xs ring size f a l d = some r → ∀ x ∈ r, x.Ok := by
  intro f
  induction f with
  | zero =>
    intro a l d r ha hl hd h
    cases hb : d.bit 1
    · rw [ringGo_end hb] at h; injection h with h; subst h
      intro x hx
      rcases List.mem_append.1 hx with hx | hx
      · exact hl x hx
      · rw [List.mem_singleton.1 hx]; exact hd
    · rw [ringGo_none hb] at h; cases h
  | succ f ih =>
    intro a l d r ha hl hd h
    have hl2 : ∀ x ∈ l ++ [d], x.Ok := by
      intro x hx
      rcases List.mem_append.1 hx with hx | hx
      · exact hl x hx
      · rw [List.mem_singleton.1 hx]; exact hd
    cases hb : d.bit 1
    · rw [ringGo_end hb] at h; injection h with h; subst h; exact hl2
    · rw [ringGo_step hb] at h
      have := stA_lt ha hs
      exact ih this hl2 (deAt_ok xs _ (by omega)) h
theorem nameV_length {xs : List UInt8} {l n : List De} (h : nameV xs l = some n) (hl : l.length ≤ 64) : n.length ≤ 64 := by
  by_cases k : l.length = 1
  · match l, k with
    | [d], _ =>
      cases hb : d.bit 4
      · rw [nameV_one xs d hb] at h; injection h with h; subst h; exact hl
      · rw [nameV_tab xs d hb] at h
        cases ht : tabOk xs d
        · rw [ht] at h; cases h
        · rw [ht] at h; injection h with h; subst h
          have hyes : 0 < d.n ∧ d.n % 16 = 0 ∧ d.n ≤ 1024 ∧ d.a + d.n ≤ xs.length := by unfold tabOk at ht; simpa using ht
          unfold tabL
          simp
          omega
  · rw [nameV_more xs l k] at h; injection h with h; subst h; exact hl
theorem chain_any {c : Ctx} {wE w : World} (h : Rm c wE w) (hq : c.q.Ok c.xs.length) (hout : c.q.out < c.q.size) :
    Calls Try.prog 65 #[.pointer (some ⟨c.gq, 0, none⟩), (deAt c.xs (c.q.ring + 16 * c.q.na)).v] w (ChainP c w (chainV c.xs c.q)) := by
  have hd := deAt_ok c.xs (c.q.ring + 16 * c.q.na) (by have := hq.r; have := hq.na; omega)
  unfold chainV ringV
  generalize hr : ringGo c.xs c.q.ring c.q.size (allowed c.q - 1) c.q.na [] (deAt c.xs (c.q.ring + 16 * c.q.na)) = r
  cases r with
  | none => exact chain_ring h hq _ hd hout hr
  | some l =>
    have hl := ringGo_ok hq.r hq.s1 hq.na (by simp) hd hr
    have hl2 := ringGo_length hr
    have hal : allowed c.q ≤ 64 ∧ 1 ≤ allowed c.q := by unfold allowed; omega
    have hl3 : 1 ≤ l.length ∧ l.length ≤ 64 := by simp at hl2; omega
    show Calls Try.prog 65 _ w (ChainP c w ((nameV c.xs l).bind fun n => (partsGo c.xs n false).map fun p => ⟨lastId l, l.length, p⟩))
    cases hn : nameV c.xs l with
    | none => exact chain_name h hq _ hd hout l hr hn hl hl3
    | some n =>
      show Calls Try.prog 65 _ w (ChainP c w ((partsGo c.xs n false).map fun p => ⟨lastId l, l.length, p⟩))
      cases hp : partsGo c.xs n false with
      | none => exact chain_part h hq _ hd hout l n hr hn hp hl (nameV_length hn hl3.2) hl3
      | some p => exact chain_some h hq _ hd hout l n p hr hn hp hl (nameV_length hn hl3.2) hl3

/-- The queue behind a call: its numbers, the memory's bytes; nothing else that was there has turned. -/
structure Qn (c : Ctx) (q' : Qs) (xs' : List UInt8) (w' : World) : Prop where
  blk : Blk w' c.gq 92 (q'.cells c.g)
  mem : ∃ lv1, Mem c.B c.g c.gb lv1 xs' w' ∧ ∀ k, lv1.ownBlock = some k → c.lv.ownBlock = some k ∨ c.w0.heap.size ≤ k
  os : w'.os = c.w0.os
  tape : w'.tape = c.w0.tape
  output : w'.output = c.w0.output
  size : c.w0.heap.size ≤ w'.heap.size
  block : ∀ k, k < c.w0.heap.size → k ≠ c.gq → k ≠ c.g → k ≠ c.gb → c.lv.ownBlock ≠ some k → w'.heap[k]? = c.w0.heap[k]?
section
variable {c : Ctx} {q' : Qs} {xs' : List UInt8} {wE w w' : World}
theorem Qn.of (h : Rm c wE w) : Qn c c.q c.xs w := by
  obtain ⟨lv1, hM, hT, hL⟩ := h.mem
  exact ⟨h.blk, ⟨lv1, hM, hL⟩, hT.os, hT.tape, hT.output, hT.size, fun k hk _ a b d => hT.block k hk a b d⟩
theorem Qn.below (h : Qn c q' xs' w) (hq : Below w.heap.size w w') : Qn c q' xs' w' := by
  obtain ⟨lv1, hM, hL⟩ := h.mem
  exact ⟨h.blk.same (hq.block _ h.blk.lt), ⟨lv1, hM.below hq (Nat.le_refl _), hL⟩, hq.os.trans h.os, hq.tape.trans h.tape, hq.output.trans h.output, Nat.le_trans h.size hq.size, fun k hk x a b d => (hq.block k (by have := h.size; omega)).trans (h.block k hk x a b d)⟩
theorem Qn.alloc (h : Qn c q' xs' w) (o : Obj) : Qn c q' xs' (w.alloc o) := h.below ((Below.refl _ _).alloc (Nat.le_refl _) _)
theorem Qn.drew (h : Qn c q' xs' w) : Qn c q' xs' w.drew := h.below (Below.refl _ _).drew
/-- a store into a variable of the call's own -/
theorem Qn.put (h : Qn c q' xs' w) {k : Nat} {t : TypeId} {cs : Array Value} (hk : Blk w k t cs) (hE : c.w0.heap.size ≤ k) (a : t ≠ 85) (b : t ≠ 5) (d : t ≠ 141) (e : t ≠ 92) (i : Nat) (u : Value) : Qn c q' xs' (w.setCell ⟨k, i, none⟩ u) := by
  obtain ⟨lv1, hM, hL⟩ := h.mem
  obtain ⟨n1, n2, n3⟩ := hM.far hk a b d
  have o : ∀ j, j ≠ k → (w.setCell ⟨k, i, none⟩ u).heap[j]? = w.heap[j]? := fun j hj => Below.heap_setCell w _ u j hj
  exact ⟨h.blk.other (fun x => hk.ne h.blk e x.symm) i u, ⟨lv1, hM.kept (o _ n1.symm) (o _ n2.symm) (fun j hj => o j (fun x => n3 (x ▸ hj))), hL⟩, h.os, h.tape, h.output, by simpa [World.setCell] using h.size, fun j hj x y z v => (o j (by omega)).trans (h.block j hj x y z v)⟩
/-- a store into the queue itself -/
theorem Qn.set (h : Qn c q' xs' w) (i : Nat) (u : Value) {q2 : Qs} (hc : (q'.cells c.g).setIfInBounds i u = q2.cells c.g) : Qn c q2 xs' (w.setCell ⟨c.gq, i, none⟩ u) := by
  obtain ⟨lv1, hM, hL⟩ := h.mem
  obtain ⟨n1, n2, n3⟩ := hM.far h.blk (by decide) (by decide) (by decide)
  have o : ∀ j, j ≠ c.gq → (w.setCell ⟨c.gq, i, none⟩ u).heap[j]? = w.heap[j]? := fun j hj => Below.heap_setCell w _ u j hj
  refine ⟨by rw [← hc]; exact h.blk.put i u, ⟨lv1, hM.kept (o _ n1.symm) (o _ n2.symm) (fun j hj => o j (fun x => n3 (x ▸ hj))), hL⟩, h.os, h.tape, h.output, by simpa [World.setCell] using h.size, fun j hj x y z v => (o j x).trans (h.block j hj x y z v)⟩
theorem Qn.lt (h : Qn c q' xs' w) : c.gq < w.heap.size := h.blk.lt
end

/-- take's variables -/
structure TK (c : Ctx) (w : World) (x y z : Value) (is : Bool) (er : Int) (W : World) : Prop where
  b1 : Blk W w.heap.size 32 #[.pointer (some ⟨c.gq, 0, none⟩)]
  b2 : Blk W (w.heap.size + 1) 44 #[x, y, z]
  b3 : Blk W (w.heap.size + 1 + 1) 4 #[.bool is]
  b4 : Blk W (w.heap.size + 1 + 1 + 1) 26 #[.int .i64 er]
section
variable {c : Ctx} {w W W' : World} {x y z : Value} {is : Bool} {er : Int}
theorem TK.keep (h : TK c w x y z is er W) (hk : Keep W W') : TK c w x y z is er W' :=
  ⟨h.b1.keep hk (by decide) (by decide) (by decide), h.b2.keep hk (by decide) (by decide) (by decide), h.b3.keep hk (by decide) (by decide) (by decide), h.b4.keep hk (by decide) (by decide) (by decide)⟩
theorem TK.below (h : TK c w x y z is er W) (hq : Below W.heap.size W W') : TK c w x y z is er W' := h.keep (Keep.of_below hq)
theorem TK.other (h : TK c w x y z is er W) {k : Nat} {t : TypeId} {cs : Array Value} (hk : Blk W k t cs) (a : t ≠ 32) (b : t ≠ 44) (d : t ≠ 4) (e : t ≠ 26) (i : Nat) (u : Value) : TK c w x y z is er (W.setCell ⟨k, i, none⟩ u) :=
  ⟨h.b1.other (fun e1 => hk.ne h.b1 a e1.symm) i u, h.b2.other (fun e1 => hk.ne h.b2 b e1.symm) i u, h.b3.other (fun e1 => hk.ne h.b3 d e1.symm) i u, h.b4.other (fun e1 => hk.ne h.b4 e e1.symm) i u⟩
theorem TK.facts (h : TK c w x y z is er W) : W.cell? ⟨w.heap.size, 0, none⟩ = some (.pointer (some ⟨c.gq, 0, none⟩)) ∧ W.cell? ⟨w.heap.size + 1, 0, none⟩ = some x ∧ W.cell? ⟨w.heap.size + 1, 1, none⟩ = some y ∧ W.cell? ⟨w.heap.size + 1, 2, none⟩ = some z ∧ W.cell? ⟨w.heap.size + 1 + 1, 0, none⟩ = some (.bool is) ∧ W.cell? ⟨w.heap.size + 1 + 1 + 1, 0, none⟩ = some (.int .i64 er) ∧
    (∀ i, W.frozen? ⟨w.heap.size + 1, i, none⟩ = false) ∧ W.frozen? ⟨w.heap.size + 1 + 1, 0, none⟩ = false ∧ W.frozen? ⟨w.heap.size + 1 + 1 + 1, 0, none⟩ = false :=
  ⟨h.b1.cell 0, h.b2.cell 0, h.b2.cell 1, h.b2.cell 2, h.b3.cell 0, h.b4.cell 0, h.b2.frozen, h.b3.frozen 0, h.b4.frozen 0⟩
/-- the results laid into the variables -/
theorem TK.set (h : TK c w x y z is er W) (a b d : Value) (v : Bool) (n : Int) :
    TK c w a b d v n (((((W.setCell ⟨w.heap.size + 1, 0, none⟩ a).setCell ⟨w.heap.size + 1, 1, none⟩ b).setCell ⟨w.heap.size + 1, 2, none⟩ d).setCell ⟨w.heap.size + 1 + 1, 0, none⟩ (.bool v)).setCell ⟨w.heap.size + 1 + 1 + 1, 0, none⟩ (.int .i64 n)) := by
  refine ⟨((((h.b1.other (by omega) 0 a).other (by omega) 1 b).other (by omega) 2 d).other (by omega) 0 _).other (by omega) 0 _, ?_, ?_, ?_⟩
  · have := (((((h.b2.put 0 a).put 1 b).put 2 d).other (k := w.heap.size + 1 + 1) (by omega) 0 (.bool v)).other (k := w.heap.size + 1 + 1 + 1) (by omega) 0 (.int .i64 n))
    simpa using this
  · have := (((((h.b3.other (k := w.heap.size + 1) (by omega) 0 a).other (k := w.heap.size + 1) (by omega) 1 b).other (k := w.heap.size + 1) (by omega) 2 d).put 0 (.bool v)).other (k := w.heap.size + 1 + 1 + 1) (by omega) 0 (.int .i64 n))
    simpa using this
  · have := (((((h.b4.other (k := w.heap.size + 1) (by omega) 0 a).other (k := w.heap.size + 1) (by omega) 1 b).other (k := w.heap.size + 1) (by omega) 2 d).other (k := w.heap.size + 1 + 1) (by omega) 0 (.bool v)).put 0 (.int .i64 n))
    simpa using this
theorem TK.qn {q' : Qs} {xs' : List UInt8} (h : TK c w x y z is er W) (hQ : Qn c q' xs' W) (hw : c.w0.heap.size ≤ w.heap.size) (a b d : Value) (v : Bool) (n : Int) :
    Qn c q' xs' (((((W.setCell ⟨w.heap.size + 1, 0, none⟩ a).setCell ⟨w.heap.size + 1, 1, none⟩ b).setCell ⟨w.heap.size + 1, 2, none⟩ d).setCell ⟨w.heap.size + 1 + 1, 0, none⟩ (.bool v)).setCell ⟨w.heap.size + 1 + 1 + 1, 0, none⟩ (.int .i64 n)) := by
  have k1 := h.b2.put 0 a
  have k2 := k1.put 1 b
  have k3 := (((h.b3.other (k := w.heap.size + 1) (by omega) 0 a).other (k := w.heap.size + 1) (by omega) 1 b).other (k := w.heap.size + 1) (by omega) 2 d)
  have k4 := ((((h.b4.other (k := w.heap.size + 1) (by omega) 0 a).other (k := w.heap.size + 1) (by omega) 1 b).other (k := w.heap.size + 1) (by omega) 2 d).other (k := w.heap.size + 1 + 1) (by omega) 0 (.bool v))
  exact ((((hQ.put h.b2 (by omega) (by decide) (by decide) (by decide) (by decide) 0 a).put k1 (by omega) (by decide) (by decide) (by decide) (by decide) 1 b).put k2 (by omega) (by decide) (by decide) (by decide) (by decide) 2 d).put k3 (by omega) (by decide) (by decide) (by decide) (by decide) 0 (.bool v)).put k4 (by omega) (by decide) (by decide) (by decide) (by decide) 0 (.int .i64 n)
end

/-! Fail -/
theorem fail_any {c : Ctx} {q' : Qs} {xs' : List UInt8} {w : World} (h : Qn c q' xs' w) :
    Calls Try.prog 61 #[.pointer (some ⟨c.gq, 0, none⟩)] w fun e w' => e = .returned (.tuple #[]) ∧ w' = w.setCell ⟨c.gq, 13, none⟩ (.bool true) := by
  have h0 := h.blk.cell 13
  have f0 := h.blk.frozen 13
  have e : (q'.cells c.g)[13]? = some (.bool q'.broken) := rfl
  rw [e] at h0
  clear h e
  go_enter Try.func61, Try.ntmps61
  go_wp2
  go_end0
  exact ⟨rfl, rfl⟩
theorem Qn.failed {c : Ctx} {q' : Qs} {xs' : List UInt8} {w : World} (h : Qn c q' xs' w) : Qn c { q' with broken := true } xs' (w.setCell ⟨c.gq, 13, none⟩ (.bool true)) := h.set 13 _ rfl

/-! take's deferred closure -/
theorem assert_bad (W : World) : (Instr.typeAssert (.iface 129 (.agg #[])) 20 129 true).run Try.prog W = .ok (.tuple #[.agg #[], .bool true]) W := by kernel_rfl
set_option maxRecDepth 100000 in
set_option maxHeartbeats 1600000 in
theorem catch_panicking {c : Ctx} {q' : Qs} {xs' : List UInt8} {w W : World} {x y z : Value} {is : Bool} {er : Int} (older : List PanicEntry) (hT : TK c w x y z is er W) (hQ : Qn c q' xs' W) (hw : c.w0.heap.size ≤ w.heap.size) :
    CallsD Try.prog 60 #[.pointer (some ⟨w.heap.size, 0, none⟩), .pointer (some ⟨w.heap.size + 1, 0, none⟩), .pointer (some ⟨w.heap.size + 1 + 1, 0, none⟩), .pointer (some ⟨w.heap.size + 1 + 1 + 1, 0, none⟩)] (.panicking ({ v := badV, recovered := false } :: older)) W fun e u' w' =>
      e = .returned (.tuple #[]) ∧ u' = .panicking ({ v := badV, recovered := true } :: older) ∧ TK c w (.int .i64 0) (.int .i64 0) (.slice none 0 0) false 141 w' ∧ Qn c { q' with broken := true } xs' w' := by
  have HT := Lib.hid hT
  have HQ := Lib.hid hQ
  obtain ⟨p0, p1, p2, p3, p4, p5, z1, z2, z3⟩ := hT.facts
  have hlt := hT.b4.lt
  have hl0 : w.heap.size < W.heap.size := by omega
  have hn0 : W.heap.size ≠ w.heap.size := by omega
  have hn1 : W.heap.size ≠ w.heap.size + 1 := by omega
  have hn2 : W.heap.size ≠ w.heap.size + 1 + 1 := by omega
  have hn3 : W.heap.size ≠ w.heap.size + 1 + 1 + 1 := by omega
  clear hT hQ
  refine callsD_of_wpS Try.func60 rfl fun c₀ cs hu => ?_
  unfold badV at *
  apply wpS_seq
  apply wpS_region
  simp [wpOpsS, go_sem, recoverD, hu, Try.ntmps60, Exit.thenS]
  refine wpS_of_wp ?_
  change Code.wp _ _ _ { tmps := #[Value.pointer (some { block := w.heap.size, off := 0 }), Value.pointer (some { block := w.heap.size + 1, off := 0 }), Value.pointer (some { block := w.heap.size + 1 + 1, off := 0 }), Value.pointer (some { block := w.heap.size + 1 + 1 + 1, off := 0 }), undef, undef, undef, Value.iface 129 (Value.agg #[]), undef, undef, undef, undef, undef, undef, undef, undef], defers := [] } W
  have ha := assert_bad
  go_wp2_with fail
  refine (fail_any (HQ.out.alloc _)).mono ?_
  rintro e w1 ⟨rfl, hw1⟩
  have T1 := (HT.out.below ((Below.refl _ _).alloc (Nat.le_refl _) (.cells #[] 129))).other (HQ.out.alloc (.cells #[] 129)).blk (by decide) (by decide) (by decide) (by decide) 13 (.bool true)
  have Q1 := (HQ.out.alloc (.cells #[] 129)).failed
  rw [← hw1] at T1 Q1
  clear hw1 p0 p1 p2 p3 p4 p5 z1 z2 z3 hn0 hn1 hn2 hn3 hlt
  obtain ⟨p0, p1, p2, p3, p4, p5, z1, z2, z3⟩ := T1.facts
  have HR := Lib.hid (T1.set (.int .i64 0) (.int .i64 0) (.slice none 0 0) false 141)
  have HS := Lib.hid (T1.qn Q1 hw (.int .i64 0) (.int .i64 0) (.slice none 0 0) false 141)
  clear T1 Q1
  go_wp2_with fail
  refine ⟨rfl, _, rfl, .tuple #[], by simp [results, Try.results60], rfl, rfl, HR.out, HS.out⟩
theorem catch_idle (a b c d : Value) (w : World) :
    CallsD Try.prog 60 #[a, b, c, d] .returning w fun e u' w' => e = .returned (.tuple #[]) ∧ u' = .returning ∧ w' = w := by
  refine callsD_of_wpS Try.func60 rfl fun c₀ cs hu => ?_
  apply wpS_seq
  apply wpS_region
  simp [wpOpsS, go_sem, recoverD, hu, Try.ntmps60, Exit.thenS]
  refine wpS_of_wp ?_
  change Code.wp _ _ _ { tmps := #[a, b, c, d, undef, undef, undef, Value.nilIface, undef, undef, undef, undef, undef, undef, undef, undef], defers := [] } w
  go_wp2
  cases c₀
  simp_all [bodyPostS, results, Try.results60]
end Go.Proofs.Ytbpgblmhacpjlaa
