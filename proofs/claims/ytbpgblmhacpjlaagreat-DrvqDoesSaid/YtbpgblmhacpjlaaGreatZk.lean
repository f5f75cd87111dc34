/-
  Rows that grow; the document's Held.
-/
import Derived.Test.YtbpgblmhacpjlaaGreatZi
import Derived.Test.YtbpgblmhacpjlaaGreatSVb
import Derived.Deep.AppendLies
namespace Go.Proofs.YtbpgblmhacpjlaaGreat
open Go.RowKit

section
variable {F0 : Nat → Prop} {w0 w w' : World} {l : List As}
/-- a row just built -/
theorem own_blk {w : World} {k : Nat} {e : TypeId} {size n : Nat} {cs : List Value} (h : Blk w k e cs.toArray) (hl : cs.length = n * size) (h1 : n ≤ maxLen) (hn : 0 < n) : w.ownsRow 0 e size (.slice (some ⟨k, 0, none⟩) n n) n cs := by
  have _ := hn
  refine ⟨hl, .inr ⟨k, n, cs.toArray, rfl, Nat.zero_le _, h, Nat.le_refl _, h1, by simp [hl], ?_⟩⟩
  simp only
  rw [← hl]; exact List.take_length
theorem St.pushRow (h : St F0 w0 (stars l) w) (e : TypeId) (size n : Nat) (cs : List Value) (hl : cs.length = n * size) (h1 : n ≤ maxLen) (hn : 0 < n) : St F0 w0 (stars (rowA e size (.slice (some ⟨w.heap.size, 0, none⟩) n n) n cs :: l)) (w.alloc (.cells cs.toArray e)) :=
  h.add (B := rowA e size (.slice (some ⟨w.heap.size, 0, none⟩) n n) n cs) (F := fun k => k = w.heap.size) (ba (Below.refl _ _) _) ⟨own_blk (Blk.new w e cs.toArray) hl h1 hn, fun k => by simp [Value.ownBlock, eq_comm]⟩ (fun k e => by omega)
/-- a row without anything -/
theorem St.pushNone (h : St F0 w0 (stars l) w) (e : TypeId) (size : Nat) : St F0 w0 (stars (rowA e size (.slice none 0 0) 0 [] :: l)) w :=
  h.add (B := rowA e size (.slice none 0 0) 0 []) (F := fun _ => False) (Below.refl _ _) ⟨World.ownsRow_nil _ _ _ _, fun k => by simp [Value.ownBlock]⟩ (fun k e => e.elim)
/-- a row that came to be in new blocks -/
theorem St.newRow (h : St F0 w0 (stars l) w) (hb : Below w.heap.size w w') {e : TypeId} {size n : Nat} {v : Value} {xs : List Value} (ho : w'.ownsRow w.heap.size e size v n xs) : St F0 w0 (stars (rowA e size v n xs :: l)) w' :=
  h.add (B := rowA e size v n xs) (F := fun k => v.ownBlock = some k) hb ⟨own_base ho (Nat.zero_le _), fun _ => Iff.rfl⟩ (fun k hk => (ho.lt k hk).1)
/-- the row at place i grows -/
theorem St.grow (h : St F0 w0 (stars l) w) (i : Nat) (hi : i < l.length) {e : TypeId} {size n n' : Nat} {v v' : Value} {xs xs' : List Value} (he : l[i] = rowA e size v n xs) {B : Nat} (ho : w'.ownsRow B e size v' n' xs') (hg : w.grownBy w' v.ownBlock) (hk : ∀ k, v'.ownBlock = some k → v.ownBlock = some k ∨ w.heap.size ≤ k) :
    St F0 w0 (stars (l.set i (rowA e size v' n' xs'))) w' := by
  obtain ⟨F, hA, hb⟩ := h.at i hi
  rw [he] at hA
  refine hb _ _ ⟨fun k => v'.ownBlock = some k, ⟨own_base ho (Nat.zero_le _), fun _ => Iff.rfl⟩, ⟨hg.os, hg.tape, hg.output, hg.size, fun k hlt hno => hg.block k hlt (fun e => hno ((hA.2 k).2 e.symm))⟩, fun k hk' => ?_⟩
  rcases hk k hk' with e | e
  · exact .inl ((hA.2 k).2 e)
  · exact .inr e
theorem St.row (h : St F0 w0 (stars l) w) (i : Nat) (hi : i < l.length) {e : TypeId} {size n : Nat} {v : Value} {xs : List Value} (he : l[i] = rowA e size v n xs) : w.ownsRow 0 e size v n xs := by
  obtain ⟨F, hA⟩ := h.get i hi
  rw [he] at hA
  exact hA.1
end
theorem first_of {F : Nat → Prop} {w : World} {A B : As} (h : (stars [A, B]).P F w) : ∃ F', (stars [A]).P F' w ∧ ∀ k, F' k → F k := by
  obtain ⟨F1, F2, hF, d, a, -⟩ := h
  exact ⟨F1, ⟨F1, fun _ => False, fun k => by simp, fun k _ e => e, a, fun _ e => e⟩, fun k hk => (hF k).2 (.inl hk)⟩
def IPt.cells (p : IPt) : List Value := [.int .i64 p.at_, .int .i64 p.n, .bool p.wr]
def iptCells (l : List IPt) : List Value := l.flatMap IPt.cells
theorem iptCells_length (l : List IPt) : (iptCells l).length = l.length * 3 := by
  induction l with
  | nil => rfl
  | cons a l ih => simp only [iptCells, List.flatMap_cons, List.length_append, List.length_cons] at ih ⊢; rw [ih]; simp [IPt.cells]; omega
theorem iptCells_append (l m : List IPt) : iptCells (l ++ m) = iptCells l ++ iptCells m := by simp [iptCells]
theorem ipt_one (l : List IPt) : ∀ u ∈ iptCells l, u.oneCell' = true := by
  intro u hu
  simp only [iptCells, List.mem_flatMap] at hu
  obtain ⟨p, -, hu⟩ := hu
  simp only [IPt.cells, List.mem_cons, List.not_mem_nil, or_false] at hu
  rcases hu with rfl | rfl | rfl <;> rfl
theorem iptCells_at (l : List IPt) (k : Nat) (h : k < l.length) :
    (iptCells l)[k * 3]? = some (.int .i64 l[k].at_) ∧ (iptCells l)[k * 3 + 1]? = some (.int .i64 l[k].n) ∧ (iptCells l)[k * 3 + 2]? = some (.bool l[k].wr) := by
  induction l generalizing k with
  | nil => simp at h
  | cons a l ih =>
    have e : ∀ l : List IPt, iptCells (a :: l) = a.cells ++ iptCells l := fun l => by simp [iptCells]
    cases k with
    | zero => simp [iptCells, IPt.cells]
    | succ k =>
      obtain ⟨h0, h1, h2⟩ := ih k (by simpa using h)
      have z : a.cells.length = 3 := rfl
      rw [e, List.getElem?_append_right (by rw [z]; omega), List.getElem?_append_right (by rw [z]; omega), List.getElem?_append_right (by rw [z]; omega), z]
      refine ⟨?_, ?_, ?_⟩
      · rw [show (k + 1) * 3 - 3 = k * 3 by omega]; exact h0
      · rw [show (k + 1) * 3 + 1 - 3 = k * 3 + 1 by omega]; exact h1
      · rw [show (k + 1) * 3 + 2 - 3 = k * 3 + 2 by omega]; exact h2
theorem PsAt.of_own {w : World} {B : Nat} {A : Option Addr} {cap : Nat} {l : List IPt} (h : w.ownsRow B 56 3 (.slice A l.length cap) l.length (iptCells l)) : PsAt A l w := by
  intro j hj
  obtain ⟨gl, cap', hv, _, hlt⟩ := h.form (by omega)
  have hA : A = some ⟨gl, 0, none⟩ := by injection hv
  subst hA
  obtain ⟨a, b, c⟩ := iptCells_at l j hj
  have hc := fun j u hu => h.cells (g := gl) rfl j u hu
  have a := hc _ _ a
  have b := hc _ _ b
  have c := hc _ _ c
  rw [addr_zero] at a b c
  exact ⟨gl, 0, rfl, hlt, by rw [Nat.zero_add]; exact a, by rw [Nat.zero_add]; exact b, by rw [Nat.zero_add]; exact c⟩
theorem own_addr {w : World} {B e size n c : Nat} {A : Option Addr} {xs : List Value} (h : w.ownsRow B e size (.slice A n c) n xs) : ∀ ad, A = some ad → (Value.slice A n c).ownBlock = some ad.block := by
  rintro ad rfl
  rcases h.2 with ⟨e, _⟩ | ⟨g, cap, cur, e, _⟩
  · simp at e
  · simp only [Value.slice.injEq, Option.some.injEq] at e
    obtain ⟨rfl, -, -⟩ := e
    rfl
end Go.Proofs.YtbpgblmhacpjlaaGreat
namespace Go.Proofs.YtbpgblmhacpjlaaGreat
open Go.RowKit

theorem own_none {w : World} {k : Nat} {e : TypeId} {size : Nat} (h : Blk w k e #[]) : w.ownsRow 0 e size (.slice (some ⟨k, 0, none⟩) 0 0) 0 [] :=
  ⟨by simp, .inr ⟨k, 0, #[], rfl, Nat.zero_le _, h, Nat.le_refl _, by unfold maxLen; omega, by simp, by simp⟩⟩
theorem St.pushEmpty {F0 : Nat → Prop} {w0 w : World} {l : List As} (h : St F0 w0 (stars l) w) (e : TypeId) (size : Nat) : St F0 w0 (stars (rowA e size (.slice (some ⟨w.heap.size, 0, none⟩) 0 0) 0 [] :: l)) (w.alloc (.cells #[] e)) :=
  h.add (B := rowA e size (.slice (some ⟨w.heap.size, 0, none⟩) 0 0) 0 []) (F := fun k => k = w.heap.size) (ba (Below.refl _ _) _) ⟨own_none (Blk.new w e #[]), fun k => by simp [Value.ownBlock, eq_comm]⟩ (fun k e => by omega)
/-- the held ids below k -/
def heldP (hs : List Nat) (k : Nat) : List Nat := (List.range k).filter fun i => decide (0 < hs.getD i 0)
theorem heldP_all (hs : List Nat) : heldP hs hs.length = heldL hs := rfl
theorem heldP_yes {hs : List Nat} {k : Nat} (h : 0 < hs.getD k 0) : heldP hs (k + 1) = heldP hs k ++ [k] := by
  unfold heldP
  rw [List.range_succ, List.filter_append]
  simp only [List.filter_cons, List.filter_nil, decide_eq_true h, if_pos]
theorem heldP_no {hs : List Nat} {k : Nat} (h : ¬ 0 < hs.getD k 0) : heldP hs (k + 1) = heldP hs k := by
  unfold heldP
  rw [List.range_succ, List.filter_append]
  simp only [List.filter_cons, List.filter_nil, decide_eq_false h]
  rw [if_neg (by decide), List.append_nil]
theorem heldP_length (hs : List Nat) (k : Nat) : (heldP hs k).length ≤ k := by
  have := List.length_filter_le (fun i => decide (0 < hs.getD i 0)) (List.range k)
  simpa [heldP] using this
theorem intsV_append (a b : List Nat) : intsV (a ++ b) = intsV a ++ intsV b := by simp [intsV]
theorem ints_one (l : List Nat) : ∀ u ∈ intsV l, u.oneCell' = true := by
  intro u hu
  simp only [intsV, List.mem_map] at hu
  obtain ⟨i, -, rfl⟩ := hu
  rfl
set_option maxRecDepth 100000 in
set_option maxHeartbeats 1600000 in
theorem rheld_v {w : World} {gx g n : Nat} {q : Vs} {F : Nat → Prop} (h : (refA gx g q).P F w) (hq : q.Ok n) :
    Calls Tryz.prog 56 #[.pointer (some ⟨gx, 0, none⟩)] w fun e w' => ∃ A cap, e = .returned (.slice A (heldL q.hs).length cap) ∧ NTab A (heldL q.hs) w' ∧ Below w.heap.size w w' := by
  obtain ⟨A, cap, hb, ht, -⟩ := ref_form h
  have hmx : q.hs.length ≤ 32768 := by have := hq.s2; have := hq.hl; omega
  obtain ⟨i0, hi, hz0, hz1, hz2⟩ := info_parts Tryz.info3
  have HI := Lib.hid hi
  have HZ0 := Lib.hid hz0
  have HZ1 := Lib.hid hz1
  have HZ2 := Lib.hid hz2
  have HT := Lib.hid ht
  have HB := Lib.hid hb
  have S0 := Lib.hid ((St.begin w).pushEmpty 3 1)
  have hmx := Lib.hid hmx
  clear h ht hb hq hi hz0 hz1 hz2
  go_enter Tryz.func56, Tryz.ntmps56
  go_wp2_with fail
  go_loopw [3, 4] (fun a i wr => ∃ (k m : Nat) (A2 : Option Addr) (cap2 : Nat), k ≤ q.hs.length ∧ (heldP q.hs k).length = m ∧ a = .slice A2 m cap2 ∧ i = .int .i64 (k : Int) ∧ St (fun _ => False) w (stars [rowA 3 1 (.slice A2 m cap2) m (intsV (heldP q.hs k))]) wr) (fun a i _ => q.hs.length - (RowKit.intOf i).toNat)
  case atStart => exact ⟨0, 0, _, _, Nat.zero_le _, rfl, rfl, rfl, S0.out⟩
  case round =>
    obtain ⟨k, m, A2, cap2, hk, hm, rfl, rfl, S1⟩ := hrel
    have hbw := S1.law
    have kb := HB.out.same (hbw.block _ HB.out.lt)
    have c12 : wr.cell? ⟨gx, 12, none⟩ = some (.slice A q.hs.length cap) := kb.cell 12
    have ltx := kb.lt
    clear kb
    by_cases hlt : k < q.hs.length
    · obtain ⟨b, off, rfl, hc⟩ := (HT.out.below hbw).at k hlt
      have HK := Lib.hid hlt
      have hml := heldP_length q.hs k
      rw [hm] at hml
      have e1 : (0 : Int) ≤ (k : Int) := by omega
      have e2 : (k : Int) < (q.hs.length : Int) := by omega
      by_cases hx : 0 < q.hs.getD k 0
      · have hy := heldP_yes hx
        obtain ⟨x, hxe⟩ : ∃ x, q.hs.getD k 0 = x := ⟨_, rfl⟩
        rw [hxe] at hc hx
        have e3 : (0 : Int) < (x : Int) := by omega
        have P3 := Lib.hid (S1.pushRow 3 1 1 (intsV [k]) rfl (by decide) (by decide))
        have r0 := Lib.hid (P3.out.row 0 (by simp) rfl)
        have r1 := Lib.hid (P3.out.row 1 (by simp) rfl)
        have Hml := Lib.hid (show m ≤ 32768 by have := hmx.out; omega)
        have Hy := Lib.hid hy
        have Hm := Lib.hid hm
        clear S1 hx hxe hy hm hml hbw
        go_wp2_with (at_builtin; refine wpList_append_lies _ rfl (.tmp 23) (.tmp 25) 46 rfl 0 3 i0 _ 1 8 Tryz.underlying46 HI.out HZ0.out HZ1.out HZ2.out rfl (by decide) (.slice A2 m cap2) m (intsV (heldP q.hs k)) rfl r1.out ⟨wr.heap.size, 0, none⟩ 1 1 (intsV [k]) rfl rfl (r0.out.cells (g := wr.heap.size) rfl) (ints_one _) (by decide) (by have := Hml.out; unfold maxLen; omega) (by have := Hml.out; omega) (Nat.zero_le _) _ rfl ?_; intro g3 cap3 w3 hown hgrow hat hlt3)
        have S5 := St.pop (P3.out.grow 1 (by simp) rfl hown hgrow (fun x hk => by
          have e : g3 = x := by simpa [Value.ownBlock] using hk
          subst e
          rcases hat with e | e
          · exact .inl e
          · right; rw [e]; exact Nat.le_refl _))
        rw [← intsV_append, ← Hy.out] at S5
        have S5 := Lib.hid S5
        clear P3 r0 r1 hown hgrow hat hlt3 hc c12 ltx
        go_roundw
        case rel => exact ⟨k + 1, m + 1, _, _, HK.out, by rw [Hy.out, List.length_append, Hm.out]; rfl, rfl, by go_num, S5.out⟩
        case measure => have := HK.out; simp [RowKit.intOf]; omega
      · have hy := heldP_no hx
        obtain ⟨x, hxe⟩ : ∃ x, q.hs.getD k 0 = x := ⟨_, rfl⟩
        rw [hxe] at hc hx
        have e3 : ¬ (0 : Int) < (x : Int) := by omega
        have S5 := Lib.hid S1
        have Hy := Lib.hid hy
        have Hm := Lib.hid hm
        clear S1 hx hxe hy hm hml hbw
        go_wp2_with fail
        go_roundw
        case rel => exact ⟨k + 1, m, A2, cap2, HK.out, by rw [Hy.out]; exact Hm.out, rfl, by go_num, by rw [Hy.out]; exact S5.out⟩
        case measure => have := HK.out; simp [RowKit.intOf]; omega
    · obtain rfl : k = q.hs.length := by omega
      rw [heldP_all] at hm S1
      subst hm
      go_wp2_with fail
      go_ret
      exact ⟨_, _, rfl, NTab.of_own (S1.row 0 (by simp) rfl) rfl, hbw⟩
end Go.Proofs.YtbpgblmhacpjlaaGreat
