/-
  drvq: putAvailable, a chain's descriptors written; no condition.
-/
import Derived.Test.YtbpgblmhacpjlaaGreatZj
namespace Go.Proofs.YtbpgblmhacpjlaaGreat
open Go.RowKit

theorem stA_zero {n a : Nat} (h : a < n) : stA n a 0 = a := by unfold stA; rw [if_pos (by omega)]; rfl
theorem stW_zero {n a : Nat} (v : Bool) (h : a < n) : stW n a 0 v = v := by unfold stW; rw [if_pos (by omega)]
/-- parts within a memory of at most so many bytes -/
def InM (l : List IPt) : Prop := ∀ j (h : j < l.length), 0 ≤ l[j].at_ ∧ l[j].at_ ≤ 1048576 ∧ 0 ≤ l[j].n ∧ l[j].n ≤ 1048576
theorem getD_pt {l : List IPt} {i : Nat} (hi : i < l.length) : (l.map IPt.pt).getD i noPt = l[i].pt := by simp [hi]
theorem enc_at {w : World} {gq b off : Nat} {q : Vs} {g bm low cap id i : Nat} {l : List IPt} (hB : Blk w gq 77 (q.cells g bm low)) (hP : PsAt (some ⟨b, off, none⟩) l w) (hN : InM l) (hi : i < l.length) (hl : l.length ≤ 64) (hid : id ≤ 65535)
    (s1 : 1 ≤ q.size) (s2 : q.size ≤ 32768) (hna : q.na < q.size) (his : i ≤ q.size) :
    Calls Tryz.prog 62 #[.pointer (some ⟨gq, 0, none⟩), .int .i64 (id : Int), .slice (some ⟨b, off, none⟩) l.length cap, .int .i64 (i : Int)] w fun e w' => e = .returned (.string (encAt q (l.map IPt.pt) id i)) ∧ Below w.heap.size w w' := by
  obtain ⟨b', off', e, hlt, c0, c1, c2⟩ := hP i hi
  simp only [Option.some.injEq, Addr.mk.injEq, and_true] at e
  obtain ⟨rfl, rfl⟩ := e
  obtain ⟨n1, n2, n3, n4⟩ := hN i hi
  have e1 : ((l[i].at_.toNat : Nat) : Int) = l[i].at_ := Int.toNat_of_nonneg n1
  have e2 : ((l[i].n.toNat : Nat) : Int) = l[i].n := Int.toNat_of_nonneg n3
  rw [← e1] at c0
  rw [← e2] at c1
  have h := enc_v (cap := cap) hB hlt l[i].at_.toNat l[i].n.toNat id l[i].wr (decide (i + 1 < l.length)) c0 c1 c2 hi hl rfl (by omega) (by omega) hid s1 s2 hna his
  have e3 : encAt q (l.map IPt.pt) id i = encB l[i].at_.toNat l[i].n.toNat id (decide (i + 1 < l.length)) l[i].wr (stW q.size q.na i q.nw) := by
    unfold encAt
    rw [getD_pt hi, List.length_map]; rfl
  rw [e3]; exact h
/-- while a call reads the queue: its cells, and what it holds -/
def QS (F : Nat → Prop) (w : World) (gq g : Nat) (q : Vs) (l : List As) (W : World) : Prop :=
  (W.cell? ⟨gq, 0, none⟩ = some (.pointer (some ⟨g, 0, none⟩)) ∧ W.cell? ⟨gq, 5, none⟩ = some (.int .i64 (q.na : Int)) ∧ W.cell? ⟨gq, 6, none⟩ = some (.bool q.nw)) ∧ St F w (stars l) W
section
variable {F : Nat → Prop} {w W W' : World} {gq g bm low : Nat} {q : Vs} {X : List UInt8}
theorem QS.of (h : St F w (stars [memA g X, box gq 77 (q.cells g bm low)]) W) : QS F w gq g q [memA g X, box gq 77 (q.cells g bm low)] W := by
  have b := h.blk 1 (by simp) rfl
  exact ⟨⟨b.cell 0, b.cell 5, b.cell 6⟩, h⟩
theorem QS.st {l : List As} (h : QS F w gq g q l W) : St F w (stars l) W := h.2
theorem QS.next (h : QS F w gq g q [memA g X, box gq 77 (q.cells g bm low)] W) (hb : Below W.heap.size W W') : QS F w gq g q [memA g X, box gq 77 (q.cells g bm low)] W' := QS.of (h.2.below hb)
theorem QS.ex (h : QS F w gq g q [memA g X, box gq 77 (q.cells g bm low)] W) : (W.cell? ⟨gq, 0, none⟩ = some (.pointer (some ⟨g, 0, none⟩)) ∧ W.cell? ⟨gq, 5, none⟩ = some (.int .i64 (q.na : Int)) ∧ W.cell? ⟨gq, 6, none⟩ = some (.bool q.nw)) ∧ ∃ X, St F w (stars [memA g X, box gq 77 (q.cells g bm low)]) W := ⟨h.1, X, h.2⟩
theorem QS.blk (h : QS F w gq g q [memA g X, box gq 77 (q.cells g bm low)] W) : Blk W gq 77 (q.cells g bm low) := h.2.blk 1 (by simp) rfl
theorem QS.parts {A : Option Addr} {l : List IPt} {m : List As} (h : QS F w gq g q m W) (hP : PsAt A l w) (hF : ∀ ad, A = some ad → ¬ F ad.block) : PsAt A l W := hP.step h.2.step hF
theorem QS.put (h : QS F w gq g q [memA g X, box gq 77 (q.cells g bm low)] W) (a : Nat) (s : ByteArray) (hn : a + s.size ≤ X.length) :
    Calls Tryz.prog 10 #[.pointer (some ⟨g, 0, none⟩), .int .i64 (a : Int), .string s] W fun e w' => e = .returned (.int .i64 0) ∧ QS F w gq g q [memA g (over X a s), box gq 77 (q.cells g bm low)] w' := by
  obtain ⟨F1, hA, hb⟩ := h.2.at 0 (by simp)
  exact (memA_put hA a s hn).mono fun _ _ ⟨he, hs⟩ => ⟨he, QS.of (hb _ _ hs)⟩
end
set_option maxRecDepth 100000 in
set_option maxHeartbeats 3200000 in
theorem put_v {F : Nat → Prop} {w : World} {gq g bm low : Nat} {xs : List UInt8} {q : Vs} (h : (stars [memA g xs, box gq 77 (q.cells g bm low)]).P F w) (hq : q.Ok xs.length) {b off cap id : Nat} {l : List IPt} (hP : PsAt (some ⟨b, off, none⟩) l w) (hF : ¬ F b) (hN : InM l)
    (h1 : 1 ≤ l.length) (h2 : l.length ≤ 64) (h3 : l.length ≤ q.size) (hid : id ≤ 65535) (hx : xs.length ≤ 1048576) :
    Calls Tryz.prog 29 #[.pointer (some ⟨gq, 0, none⟩), .int .i64 (id : Int), .slice (some ⟨b, off, none⟩) l.length cap] w fun e w' => e = .returned (.tuple #[]) ∧ St F w (stars [memA g (putN q (l.map IPt.pt) id xs l.length), box gq 77 (q.cells g bm low)]) w' := by
  have hF' : ∀ ad : Addr, some (⟨b, off, none⟩ : Addr) = some ad → ¬ F ad.block := by
    intro ad e
    injection e with e
    subst e
    exact hF
  have HPa : ∀ X W, QS F w gq g q [memA g X, box gq 77 (q.cells g bm low)] W → PsAt (some ⟨b, off, none⟩) l W := fun X W hS => hS.parts hP hF'
  have HEn : ∀ X W (i : Nat), QS F w gq g q [memA g X, box gq 77 (q.cells g bm low)] W → i < l.length → Calls Tryz.prog 62 #[.pointer (some ⟨gq, 0, none⟩), .int .i64 (id : Int), .slice (some ⟨b, off, none⟩) l.length cap, .int .i64 (i : Int)] W fun e w' => e = .returned (.string (encAt q (l.map IPt.pt) id i)) ∧ Below W.heap.size W w' :=
    fun X W i hS hi => enc_at hS.blk (HPa X W hS) hN hi h2 hid hq.s1 hq.s2 hq.na (by omega)
  have HAf : ∀ X W (i : Nat), QS F w gq g q [memA g X, box gq 77 (q.cells g bm low)] W → i < l.length → Calls Tryz.prog 30 #[.pointer (some ⟨gq, 0, none⟩), .agg #[.int .i64 (q.na : Int), .bool q.nw], .int .i64 (i : Int)] W fun e w' => e = .returned (.agg #[.int .i64 (stA q.size q.na i : Int), .bool (stW q.size q.na i q.nw)]) ∧ Below W.heap.size W w' :=
    fun X W i hS hi => after_v (w := W) (n := q.size) ⟨hS.blk.lt, hS.blk.cell 2⟩ q.na i q.nw hq.s1 hq.s2 hq.na (by omega)
  have hr := hq.r
  have HOf : ∀ X W (i : Nat) (v : Bool), QS F w gq g q [memA g X, box gq 77 (q.cells g bm low)] W → i < l.length → Calls Tryz.prog 63 #[.pointer (some ⟨gq, 0, none⟩), .agg #[.int .i64 (stA q.size q.na i : Int), .bool v]] W fun e w' => e = .returned (.int .i64 (pAt q i : Int)) ∧ Below W.heap.size W w' :=
    fun X W i v hS hi => offset_v (w := W) (ring := q.ring) ⟨hS.blk.lt, hS.blk.cell 1⟩ (stA q.size q.na i) v (by have := stA_lt hq.na (by omega : i ≤ q.size); omega)
  have HO0 : ∀ X W, QS F w gq g q [memA g X, box gq 77 (q.cells g bm low)] W → Calls Tryz.prog 63 #[.pointer (some ⟨gq, 0, none⟩), .agg #[.int .i64 (q.na : Int), .bool q.nw]] W fun e w' => e = .returned (.int .i64 (pAt q 0 : Int)) ∧ Below W.heap.size W w' := fun X W hS => by
    have := HOf X W 0 q.nw hS (by omega)
    rw [stA_zero hq.na] at this
    exact this
  have HEz : ∀ X W, QS F w gq g q [memA g X, box gq 77 (q.cells g bm low)] W → Calls Tryz.prog 62 #[.pointer (some ⟨gq, 0, none⟩), .int .i64 (id : Int), .slice (some ⟨b, off, none⟩) l.length cap, .int .i64 0] W fun e w' => e = .returned (.string (encAt q (l.map IPt.pt) id 0)) ∧ Below W.heap.size W w' := fun X W hS => HEn X W 0 hS (by omega)
  have hp0 := pAt_le hq (i := 0) (by omega)
  obtain ⟨x14, x16⟩ := ext14 _ (encAt_size q (l.map IPt.pt) id 0)
  have z0 := encAt_size q (l.map IPt.pt) id 0
  have HW1 : ∀ W, QS F w gq g q [memA g xs, box gq 77 (q.cells g bm low)] W → Calls Tryz.prog 10 #[.pointer (some ⟨g, 0, none⟩), .int .i64 (pAt q 0 : Int), .string ((encAt q (l.map IPt.pt) id 0).extract 0 14)] W fun e w' => e = .returned (.int .i64 0) ∧ QS F w gq g q [memA g (putM q (l.map IPt.pt) id xs 0), box gq 77 (q.cells g bm low)] w' :=
    fun W hS => hS.put (pAt q 0) _ (by omega)
  have HW2 : ∀ W (k : Nat), 1 ≤ k → k < l.length → QS F w gq g q [memA g (putM q (l.map IPt.pt) id xs (k - 1)), box gq 77 (q.cells g bm low)] W → Calls Tryz.prog 10 #[.pointer (some ⟨g, 0, none⟩), .int .i64 (pAt q k : Int), .string (encAt q (l.map IPt.pt) id k)] W fun e w' => e = .returned (.int .i64 0) ∧ QS F w gq g q [memA g (putM q (l.map IPt.pt) id xs k), box gq 77 (q.cells g bm low)] w' := by
    intro W k hk1 hk hS
    obtain ⟨k, rfl⟩ : ∃ k', k = k' + 1 := ⟨k - 1, by omega⟩
    exact hS.put (pAt q (k + 1)) _ (by rw [Nat.add_sub_cancel, putM_length hq k (by omega), encAt_size]; exact pAt_le hq (by omega))
  have HW3 : ∀ W, QS F w gq g q [memA g (putM q (l.map IPt.pt) id xs (l.length - 1)), box gq 77 (q.cells g bm low)] W → Calls Tryz.prog 10 #[.pointer (some ⟨g, 0, none⟩), .int .i64 ((pAt q 0 : Int) + 14), .string ((encAt q (l.map IPt.pt) id 0).extract 14 16)] W fun e w' => e = .returned (.int .i64 0) ∧ QS F w gq g q [memA g (putN q (l.map IPt.pt) id xs l.length), box gq 77 (q.cells g bm low)] w' :=
    fun W hS => by
      have := hS.put (pAt q 0 + 14) ((encAt q (l.map IPt.pt) id 0).extract 14 16) (by rw [putM_length hq _ (by omega)]; omega)
      rw [putM_done hq _ (by omega), show l.length - 1 + 1 = l.length by omega] at this
      exact this
  have HPa := Lib.hid HPa
  have HEn := Lib.hid HEn
  have HEz := Lib.hid HEz
  have HAf := Lib.hid HAf
  have HOf := Lib.hid HOf
  have HO0 := Lib.hid HO0
  have HW1 := Lib.hid HW1
  have HW2 := Lib.hid HW2
  have HW3 := Lib.hid HW3
  have Q0 := Lib.hid (QS.of (St.start h).drew)
  have bq := (St.start h).blk 1 (by simp) rfl
  have hlt := bq.lt
  have hne := Nat.ne_of_lt hlt
  have hp1 : (pAt q 0 : Int) ≤ 1048576 := by omega
  have v1 : IntKind.i64.wrap ((pAt q 0 : Int) + 14) = (pAt q 0 : Int) + 14 := by rw [IntKind.wrap_i64]; omega
  obtain ⟨E0, hE0⟩ : ∃ E, encAt q (l.map IPt.pt) id 0 = E := ⟨_, rfl⟩
  rw [hE0] at HW1 HW3 HEz z0
  have HE0 := Lib.hid hE0
  have s1 : (14 : Int) ≤ E0.size := by omega
  have s2 : 14 ≤ E0.size := by omega
  have s3 : ¬ (E0.size : Int) < 14 := by omega
  have s4 : ¬ E0.size < 14 := by omega
  have e3 : E0.extract 14 E0.size = E0.extract 14 16 := by rw [z0]
  obtain ⟨m, hm⟩ : ∃ m, l.length = m := ⟨_, rfl⟩
  rw [hm] at h1 h2 h3 HEz HEn HAf HOf HW2 HW3 ⊢
  have hm64 : (m : Int) ≤ 64 := by omega
  clear h hP hF hF' hN hm hE0 x14 x16 hp0 hr hx hq z0 bq
  go_enter Tryz.func29, Tryz.ntmps29
  go_wp2_with fail
  go_region_held3 (fun W => (W.cell? ⟨gq, 0, none⟩ = some (.pointer (some ⟨g, 0, none⟩)) ∧ W.cell? ⟨gq, 5, none⟩ = some (.int .i64 (q.na : Int)) ∧ W.cell? ⟨gq, 6, none⟩ = some (.bool q.nw)) ∧ St F w (stars [memA g xs, box gq 77 (q.cells g bm low)]) W)
    ((refine (_root_.id (α := QS F w gq g q [memA g xs, box gq 77 (q.cells g bm low)] _) ?_); with_reducible (first | exact Q0.out | exact D1 | exact D2)))
    (first
      | (go_at_call 62; ((with_reducible refine (HEz.out _ _ Q0.out).mono ?_); rintro e w1 ⟨rfl, hq1⟩; have D1 := QS.next Q0.out hq1))
      | (go_at_call 63; ((with_reducible refine (HO0.out _ _ D1).mono ?_); rintro e w2 ⟨rfl, hq2⟩; have D2 := QS.next D1 hq2)))
  have Q2 := Lib.hid (QS.next D2 (Below.refl _ _).drew)
  clear D1 D2 hq1 hq2 HEz HO0
  go_wp2_with fail
  go_region_held3 (fun W => (W.cell? ⟨gq, 0, none⟩ = some (.pointer (some ⟨g, 0, none⟩)) ∧ W.cell? ⟨gq, 5, none⟩ = some (.int .i64 (q.na : Int)) ∧ W.cell? ⟨gq, 6, none⟩ = some (.bool q.nw)) ∧ ∃ X, St F w (stars [memA g X, box gq 77 (q.cells g bm low)]) W)
    ((with_reducible (first | exact Q2.out.ex | exact D3.ex)))
    ((go_at_call 10; ((with_reducible refine (HW1.out _ Q2.out).mono ?_); rintro e w3 ⟨rfl, D3⟩)))
  have Q3 := Lib.hid D3
  clear D3 Q2 HW1 Q0
  go_wp2_with fail
  go_loopw [8] (fun i wr => ∃ j : Nat, 1 ≤ j ∧ j ≤ m ∧ i = .int .i64 j ∧ QS F w gq g q [memA g (putM q (l.map IPt.pt) id xs (j - 1)), box gq 77 (q.cells g bm low)] wr) (fun i _ => m - (RowKit.intOf i).toNat)
  case atStart => exact ⟨1, Nat.le_refl _, h1, rfl, Q3.out⟩
  case round =>
    obtain ⟨j, hj1, hj, rfl, hQ⟩ := hrel
    have hjm : j ≤ 64 := by omega
    have Q4 := Lib.hid (QS.next hQ (Below.refl _ _).drew)
    clear hQ Q3
    by_cases hlt2 : j < m
    · have hji : (j : Int) < (m : Int) := by omega
      have HEj := Lib.hid (fun W hS => HEn.out (putM q (l.map IPt.pt) id xs (j - 1)) W j hS hlt2)
      have HAj := Lib.hid (fun W hS => HAf.out (putM q (l.map IPt.pt) id xs (j - 1)) W j hS hlt2)
      have HOj := Lib.hid (fun W hS => HOf.out (putM q (l.map IPt.pt) id xs (j - 1)) W j (stW q.size q.na j q.nw) hS hlt2)
      have HWj := Lib.hid (fun W hS => HW2.out W j hj1 hlt2 hS)
      generalize encAt q (l.map IPt.pt) id j = Ej at HEj HWj
      generalize pAt q j = pj at HOj HWj
      generalize (stA q.size q.na j : Int) = aj at HAj HOj
      generalize stW q.size q.na j q.nw = vj at HAj HOj
      have HL := Lib.hid hlt2
      clear hlt2 HEn HAf HOf HW2 HW3
      go_wp2_with fail
      go_region_held3 (fun W => (W.cell? ⟨gq, 0, none⟩ = some (.pointer (some ⟨g, 0, none⟩)) ∧ W.cell? ⟨gq, 5, none⟩ = some (.int .i64 (q.na : Int)) ∧ W.cell? ⟨gq, 6, none⟩ = some (.bool q.nw)) ∧ ∃ X, St F w (stars [memA g X, box gq 77 (q.cells g bm low)]) W)
        ((with_reducible (first | exact Q4.out.ex | exact D1.ex | exact D2.ex | exact D3.ex | exact D4.ex)))
        (first
          | (go_at_call 30; ((with_reducible refine (HAj.out _ Q4.out).mono ?_); rintro e w4 ⟨rfl, hq1⟩; have D1 := QS.next Q4.out hq1))
          | (go_at_call 63; ((with_reducible refine (HOj.out _ D1).mono ?_); rintro e w5 ⟨rfl, hq2⟩; have D2 := QS.next D1 hq2))
          | (go_at_call 62; ((with_reducible refine (HEj.out _ D2).mono ?_); rintro e w6 ⟨rfl, hq3⟩; have D3 := QS.next D2 hq3))
          | (go_at_call 10; ((with_reducible refine (HWj.out _ D3).mono ?_); rintro e w7 ⟨rfl, D4⟩)))
      have Q5 := Lib.hid D4
      clear D1 D2 D3 D4 hq1 hq2 hq3
      go_wp2_with fail
      go_roundw
      case rel => exact ⟨j + 1, by omega, HL.out, by go_num, Q5.out⟩
      case measure => have := HL.out; simp [RowKit.intOf]; omega
    · obtain rfl : j = m := by omega
      clear HEn HAf HOf HW2
      go_wp2_with fail
      go_region_held3 (fun W => (W.cell? ⟨gq, 0, none⟩ = some (.pointer (some ⟨g, 0, none⟩)) ∧ W.cell? ⟨gq, 5, none⟩ = some (.int .i64 (q.na : Int)) ∧ W.cell? ⟨gq, 6, none⟩ = some (.bool q.nw)) ∧ ∃ X, St F w (stars [memA g X, box gq 77 (q.cells g bm low)]) W)
        ((with_reducible (first | exact Q4.out.ex | exact D3.ex)))
        ((go_at_call 10; ((with_reducible refine (HW3.out _ Q4.out).mono ?_); rintro e w8 ⟨rfl, D3⟩)))
      go_wp2_with fail
      go_end0
      exact ⟨rfl, D3.st⟩
end Go.Proofs.YtbpgblmhacpjlaaGreat
