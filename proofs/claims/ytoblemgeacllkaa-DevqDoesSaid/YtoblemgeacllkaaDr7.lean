/-
  The document's memory: Write; no condition beyond its log's length.
-/
import Derived.Test.YtoblemgeacllkaaDr1
import Derived.Test.YtoblemgeacllkaaDr2
namespace Go.Proofs.Ytoblemgeacllkaa
open Go.RowKit

theorem Mr.put {B gm : Nat} {lv : Value} {xs ys : List UInt8} {lg : List Acc} {w : World} (h : Mr B gm lv xs lg w) (hy : ys.length = xs.length) : Mr B gm lv ys lg (w.setCell ⟨gm, 0, none⟩ (.string ⟨ys.toArray⟩)) := by
  obtain ⟨ag, hb⟩ := h.blk
  have hb2 := hb.put 0 (.string ⟨ys.toArray⟩)
  refine ⟨h.hB, ⟨ag, by simpa using hb2⟩, own_same h.log (fun k hk => Below.heap_setCell w _ _ k (fun e => by have e : k = gm := e; subst e; exact own_ne h.log hb (by decide) hk)), h.nil, by rw [hy]; exact h.len⟩
theorem Rnoted.put {B gm : Nat} {lv : Value} {xs ys : List UInt8} {lg : List Acc} {w w' : World} (h : Rnoted B gm lv xs lg w w') (hy : ys.length = xs.length) : Rnoted B gm lv ys lg w (w'.setCell ⟨gm, 0, none⟩ (.string ⟨ys.toArray⟩)) := by
  obtain ⟨lv', hM, ⟨h1, h2, h3, h4, h5⟩, hL⟩ := h
  exact ⟨lv', hM.put hy, ⟨h1, h2, h3, by simpa [World.setCell] using h4, fun k hk hne => (Below.heap_setCell w' _ _ k hne).trans (h5 k hk hne)⟩, hL⟩
theorem Rnoted.refl {B gm : Nat} {lv : Value} {xs : List UInt8} {lg : List Acc} {w : World} (h : Mr B gm lv xs lg w) : Rnoted B gm lv xs lg w w := ⟨lv, h, ⟨rfl, rfl, rfl, Nat.le_refl _, fun _ _ _ => rfl⟩, fun _ hk => .inl hk⟩
theorem Rnoted.below {B gm : Nat} {lv : Value} {xs : List UInt8} {lg : List Acc} {w w' w2 : World} (h : Rnoted B gm lv xs lg w w') (hb : Below w'.heap.size w' w2) : Rnoted B gm lv xs lg w w2 := by
  obtain ⟨lv', hM, ⟨h1, h2, h3, h4, h5⟩, hL⟩ := h
  exact ⟨lv', hM.below hb, ⟨hb.os.trans h1, hb.tape.trans h2, hb.output.trans h3, Nat.le_trans h4 hb.size, fun k hk hne => (hb.block k (by omega)).trans (h5 k hk hne)⟩, hL⟩
theorem cat_over (xs : List UInt8) (a : Nat) (s : ByteArray) : ((⟨xs.toArray⟩ : ByteArray).extract 0 a ++ s) ++ (⟨xs.toArray⟩ : ByteArray).extract (a + s.size) xs.length = ⟨(over xs a s).toArray⟩ := by
  apply ByteArray.ext
  apply Array.toList_inj.1
  rw [ByteArray.data_append, ByteArray.data_append, Array.toList_append, Array.toList_append, ByteArray.data_extract, ByteArray.data_extract, Array.toList_extract, Array.toList_extract]
  unfold over
  simp [List.extract]
  exact List.take_of_length_le (by simp)
theorem Mr.rq {B gm gx : Nat} {lv : Value} {xs : List UInt8} {lg : List Acc} {q : Qs} {w : World} (h : Mr B gm lv xs lg w) (hb : Blk w gx 48 (q.cellsR gm)) : Rq gx gm q xs w := ⟨hb, B, lv, lg, h⟩
/-- what Write leaves -/
def RwP (B gm : Nat) (lv : Value) (xs : List UInt8) (lg : List Acc) (a : Int) (s : ByteArray) (w : World) (e : Ending) (w' : World) : Prop :=
  e = .returned (.int .i64 (wrE xs a s)) ∧ ∃ lg', lg'.length ≤ lg.length + 1 ∧ Rnoted B gm lv (wrX xs a s) lg' w w'
set_option maxRecDepth 100000 in
set_option maxHeartbeats 3200000 in
theorem rwrite_no {B gm : Nat} {lv : Value} {xs : List UInt8} {lg : List Acc} {w : World} (h : Mr B gm lv xs lg w) (a : Int) (s : ByteArray) (hno : ¬ (0 ≤ a ∧ a + s.size ≤ xs.length)) :
    Calls Try.prog 10 #[.pointer (some ⟨gm, 0, none⟩), .int .i64 a, .string s] w (RwP B gm lv xs lg a s w) := by
  unfold RwP wrE wrX
  rw [if_neg hno, if_neg hno]
  have HM := rmay_any h a (s.size : Int)
  rw [decide_eq_false (fun x => hno ⟨x.2.1, x.2.2⟩)] at HM
  have HM := Lib.hid HM
  have HR := Lib.hid (Rnoted.refl h)
  clear h hno
  go_enter Try.func10, Try.ntmps10
  go_wp2_with fail
  refine HM.out.mono ?_
  rintro e w1 ⟨rfl, rfl⟩
  go_wp2_with fail
  go_ret
  exact ⟨rfl, lg, Nat.le_succ _, HR.out⟩
set_option maxRecDepth 100000 in
set_option maxHeartbeats 6400000 in
theorem rwrite_yes {B gm : Nat} {lv : Value} {xs : List UInt8} {lg : List Acc} {w : World} (h : Mr B gm lv xs lg w) (hlg : lg.length ≤ 4000) (a : Nat) (s : ByteArray) (hok : a + s.size ≤ xs.length) :
    Calls Try.prog 10 #[.pointer (some ⟨gm, 0, none⟩), .int .i64 (a : Int), .string s] w (RwP B gm lv xs lg a s w) := by
  have hyes : (0 : Int) ≤ (a : Int) ∧ (a : Int) + (s.size : Int) ≤ (xs.length : Int) := by omega
  unfold RwP wrE wrX
  rw [if_pos hyes, if_pos hyes]
  have HM := rmay_any h a (s.size : Int)
  rw [decide_eq_true ⟨by omega, hyes⟩] at HM
  have HM := Lib.hid HM
  have hx := h.len
  have hol := over_length xs a s hok
  have hcat := cat_over xs a s
  have hs0 : (⟨xs.toArray⟩ : ByteArray).size = xs.length := by show xs.toArray.size = _; simp
  have hNo : Calls Try.prog 41 #[.pointer (some ⟨gm, 0, none⟩), .int .i64 (a : Int), .int .i64 (s.size : Int), .bool true] w fun e w' => e = .returned (.tuple #[]) ∧ ∃ lg', lg'.length ≤ lg.length + 1 ∧ Rnoted B gm lv xs lg' w w' := by
    by_cases k : s.size = 0
    · rw [k]
      exact (rnote_none h hlg a true).mono fun e w' ⟨h1, h2⟩ => ⟨h1, lg, Nat.le_succ _, h2 ▸ Rnoted.refl h⟩
    · exact (rnote_some h hlg a s.size true (by omega)).mono fun e w' ⟨h1, x, h2⟩ => ⟨h1, _, by simp, h2⟩
  have HNo := Lib.hid hNo
  have hat : (a : Int).toNat = a := Int.toNat_natCast a
  rw [hat]
  obtain ⟨S0, hS0⟩ : ∃ S0 : ByteArray, ⟨xs.toArray⟩ = S0 := ⟨_, rfl⟩
  rw [hS0] at hcat hs0
  obtain ⟨P1, e1⟩ : ∃ P, S0.extract 0 a = P := ⟨_, rfl⟩
  have p1 : P1.size = a := by rw [← e1, ByteArray.size_extract]; omega
  obtain ⟨P2, e2⟩ : ∃ P, S0.extract (a + s.size) xs.length = P := ⟨_, rfl⟩
  have p2 : P2.size ≤ xs.length := by rw [← e2, ByteArray.size_extract]; omega
  obtain ⟨P3, e3⟩ : ∃ P, P1 ++ s = P := ⟨_, rfl⟩
  have p3 : P3.size = a + s.size := by rw [← e3, ByteArray.size_append, p1]
  rw [e1, e3, e2] at hcat
  have Hx := Lib.hid hS0
  have Hol := Lib.hid hol
  have Hcat := Lib.hid hcat
  obtain ⟨S9, e4⟩ : ∃ P, P3 ++ P2 = P := ⟨_, rfl⟩
  have He4 := Lib.hid e4
  have b1 : ¬ 9223372036854775807 < P1.size + s.size := by omega
  have b2 : ¬ 9223372036854775807 < P3.size + P2.size := by omega
  obtain ⟨t, ht0, ht⟩ : ∃ t : Nat, a + s.size = t ∧ (a : Int) + (s.size : Int) = (t : Int) := ⟨_, rfl, by omega⟩
  rw [ht0] at e2
  have v1 : IntKind.i64.wrap (t : Int) = (t : Int) := by rw [IntKind.wrap_i64]; omega
  rw [← hs0] at e2
  have v3 : (a : Int) ≤ (S0.size : Int) := by omega
  have v4 : (t : Int) ≤ (S0.size : Int) := by omega
  have v5 : a ≤ S0.size := by omega
  have v6 : t ≤ S0.size := by omega
  have v7 : ¬ (S0.size : Int) < (a : Int) := by omega
  have v8 : ¬ (S0.size : Int) < (t : Int) := by omega
  clear ht0
  clear h hyes hNo hcat hol hS0 hat
  go_enter Try.func10, Try.ntmps10
  go_wp2_with fail
  refine HM.out.mono ?_
  rintro e w1 ⟨rfl, rfl⟩
  go_wp2_with fail
  refine HNo.out.mono ?_
  rintro e w2 ⟨rfl, lg', hlg', hR⟩
  obtain ⟨lv2, hM2, -⟩ := id hR
  have m0 := hM2.c0
  rw [Hx.out] at m0
  have m0 : w2.drew.cell? ⟨gm, 0, none⟩ = some (.string S0) := m0
  have lt1 : gm < w2.drew.heap.size := hM2.lt
  obtain ⟨ag, hbk⟩ := hM2.blk
  have fz : w2.drew.frozen? ⟨gm, 0, none⟩ = false := hbk.frozen 0
  have HRR := Lib.hid (hR.below (Below.refl w2.heap.size w2).drew)
  clear hM2 hR hbk p1 p2 p3 hx hs0 hok hlg
  go_wp2_with fail
  go_still_tail 21, (by kernel_rfl)
  repeat still_step
  change wpList _ _ _ _ _ w2.drew
  clear v1 v3 v4 v5 v6 v7 v8 b1 b2 e1 e2 e3 ht
  have hF := HRR.out.put (ys := over xs a s) Hol.out
  have hS9 : (⟨(over xs a s).toArray⟩ : ByteArray) = S9 := by rw [← He4.out, ← Hcat.out]
  rw [hS9] at hF
  have HF := Lib.hid hF
  clear hF hS9 e4
  go_wp2_with fail
  go_ret
  exact ⟨rfl, lg', hlg', HF.out⟩
theorem rwrite_any {B gm : Nat} {lv : Value} {xs : List UInt8} {lg : List Acc} {w : World} (h : Mr B gm lv xs lg w) (hlg : lg.length ≤ 4000) (a : Int) (s : ByteArray) :
    Calls Try.prog 10 #[.pointer (some ⟨gm, 0, none⟩), .int .i64 a, .string s] w (RwP B gm lv xs lg a s w) := by
  by_cases k : 0 ≤ a ∧ a + s.size ≤ xs.length
  · obtain ⟨n, rfl⟩ := Int.eq_ofNat_of_zero_le k.1
    exact rwrite_yes h hlg n s (by omega)
  · exact rwrite_no h a s k
end Go.Proofs.Ytoblemgeacllkaa
