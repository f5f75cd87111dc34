/-
  drvq: Post; no condition.
-/
import Derived.Test.YtbpgblmhacpjlaaGreatSVe
import Derived.Test.YtbpgblmhacpjlaaGreatZi
namespace Go.Proofs.YtbpgblmhacpjlaaGreat
open Go.RowKit

theorem isChain_v {F : Nat → Prop} {w : World} {gq g : Nat} {xs : List UInt8} {A : Option Addr} {l : List IPt} {cap : Nat} (hq : gq < w.heap.size ∧ w.cell? ⟨gq, 0, none⟩ = some (.pointer (some ⟨g, 0, none⟩))) (hM : (memA g xs).P F w) (hP : PsAt A l w) (hl : l.length ≤ 1099511627776)
    (hN : ∀ j (h : j < l.length), l[j].n < 9223372036854775808) :
    Calls Tryz.prog 27 #[.pointer (some ⟨gq, 0, none⟩), .slice A l.length cap] w fun e w' => e = .returned (.bool (chainB xs l)) ∧ Below w.heap.size w w' := by
  by_cases k : 1 ≤ l.length ∧ l.length ≤ 64
  · refine isChain_in hq hM hP k hN _ ?_
    unfold chainB
    rw [decide_eq_true k]; rfl
  · have e : chainB xs l = false := by unfold chainB; rw [decide_eq_false k]; rfl
    rw [e]
    refine (isChain_bad hl k).mono ?_
    rintro e w' ⟨rfl, rfl⟩
    exact ⟨rfl, Below.refl _ _⟩
theorem chainGo_in {xs : List UInt8} (hx : xs.length ≤ 1048576) : ∀ (l : List IPt) (v : Bool), chainGo xs l v = true → InM l
  | [], _, _ => fun j h => by simp at h
  | p :: r, v, h => by
    unfold chainGo at h
    simp only [Bool.and_eq_true, decide_eq_true_eq, mayB] at h
    obtain ⟨h1, ⟨h2, h3, h4⟩, -, h5⟩ := h
    intro j hj
    cases j with
    | zero => exact ⟨h3, by simp; omega, h2, by simp; omega⟩
    | succ j => exact chainGo_in hx r p.wr h5 j (by simpa using hj)
theorem chainB_in {xs : List UInt8} (hx : xs.length ≤ 1048576) {l : List IPt} (h : chainB xs l = true) : InM l := by
  unfold chainB at h
  rw [Bool.and_eq_true] at h
  exact chainGo_in hx l false h.2
/-- what Post answers -/
def PostP (F : Nat → Prop) (w : World) (gq g : Nat) (r : Int × Int × List UInt8 × Vs) (e : Ending) (w' : World) : Prop :=
  e = .returned (.tuple #[.int .i64 r.1, .int .i64 r.2.1]) ∧ St F w (stars [memA g r.2.2.1, drvA gq g r.2.2.2]) w'
theorem post_form {F : Nat → Prop} {w : World} {gq g : Nat} {xs : List UInt8} {q : Vs} (h : (stars [memA g xs, drvA gq g q]).P F w) {l : List IPt} {A : Option Addr} {cap : Nat} (hP : PsAt A l w) (hl : l.length ≤ 1099511627776)
    (hN : ∀ j (h : j < l.length), l[j].n < 9223372036854775808) (k : chainB xs l = false) :
    Calls Tryz.prog 5 #[.pointer (some ⟨gq, 0, none⟩), .slice A l.length cap] w (PostP F w gq g (0, 150, xs, q)) := by
  obtain ⟨bm, low, hlo, h'⟩ := drv_open h
  have S0 := St.start h'
  obtain ⟨F1, hM⟩ := S0.get 0 (by simp)
  have hb := S0.blk 1 (by simp) rfl
  have HC := isChain_v (cap := cap) ⟨hb.lt, hb.cell 0⟩ hM hP hl hN
  rw [k] at HC
  have HC := Lib.hid HC
  have HS := Lib.hid (St.start h)
  clear h h' S0 hM hb hP hN hl hlo
  generalize l.length = m at *
  go_enter Tryz.func5, Tryz.ntmps5
  go_wp2_with fail
  refine HC.out.mono ?_
  rintro e w1 ⟨rfl, hb⟩
  go_wp2_with fail
  go_ret2
  exact ⟨rfl, HS.out.below hb⟩
theorem post_full {F : Nat → Prop} {w : World} {gq g : Nat} {xs : List UInt8} {q : Vs} (h : (stars [memA g xs, drvA gq g q]).P F w) {l : List IPt} {A : Option Addr} {cap : Nat} (hP : PsAt A l w) (hl : l.length ≤ 1099511627776)
    (hN : ∀ j (h : j < l.length), l[j].n < 9223372036854775808) (k : chainB xs l = true) (hf : q.free < l.length) :
    Calls Tryz.prog 5 #[.pointer (some ⟨gq, 0, none⟩), .slice A l.length cap] w (PostP F w gq g (0, 151, xs, q)) := by
  obtain ⟨bm, low, hlo, h'⟩ := drv_open h
  have S0 := St.start h'
  obtain ⟨F1, hM⟩ := S0.get 0 (by simp)
  have hb := S0.blk 1 (by simp) rfl
  have HC := isChain_v (cap := cap) ⟨hb.lt, hb.cell 0⟩ hM hP hl hN
  rw [k] at HC
  have HC := Lib.hid HC
  have HS := Lib.hid (St.start h)
  have HB := Lib.hid hb
  have hf2 : (q.free : Int) < (l.length : Int) := by omega
  clear h h' S0 hM hb hP hN hl hlo hf
  generalize l.length = m at *
  go_enter Tryz.func5, Tryz.ntmps5
  go_wp2_with fail
  refine HC.out.mono ?_
  rintro e w1 ⟨rfl, hb⟩
  have c10 : w1.cell? ⟨gq, 10, none⟩ = some (.int .i64 (q.free : Int)) := ((bcell hb).1 gq 10 HB.out.lt).trans (HB.out.cell 10)
  go_wp2_with fail
  go_ret2
  exact ⟨rfl, HS.out.below hb⟩
theorem posted_cells (q : Vs) (g bm low n : Nat) {n' : Nat} (hq : q.Ok n') (hn : 1 ≤ n) (hf : ¬ q.free < n) :
    ((((((q.cells g bm low).setIfInBounds 11 (.int .i64 ((leastId q.hs : Int) + 1))).setIfInBounds 10 (.int .i64 ((q.free : Int) - (n : Int)))).setIfInBounds 5 (.int .i64 (stA q.size q.na n : Int))).setIfInBounds 6 (.bool (stW q.size q.na n q.nw))).setIfInBounds 14 (.int .i64 ((q.since : Int) + (n : Int)))) = (q.posted n).cells g bm (leastId q.hs + 1) := by
  have e1 : ((q.free : Int) - (n : Int)) = (((q.posted n).free : Nat) : Int) := by rw [posted_free hq hn hf]; omega
  have e2 : ((leastId q.hs : Int) + 1) = ((leastId q.hs + 1 : Nat) : Int) := by omega
  have e3 : ((q.since : Int) + (n : Int)) = ((q.since + n : Nat) : Int) := by omega
  rw [e1, e2, e3]
  rfl
theorem posted_st {F : Nat → Prop} {w W : World} {A : As} {gq g bm low n n' : Nat} {q : Vs} (hq : q.Ok n') (hn : 1 ≤ n) (hf : ¬ q.free < n) (hl : LowOk (leastId q.hs + 1) (q.hs.set (leastId q.hs) n))
    (h : St F w (stars [A, box gq 77 ((((((q.cells g bm low).setIfInBounds 11 (.int .i64 ((leastId q.hs : Int) + 1))).setIfInBounds 10 (.int .i64 ((q.free : Int) - (n : Int)))).setIfInBounds 5 (.int .i64 (stA q.size q.na n : Int))).setIfInBounds 6 (.bool (stW q.size q.na n q.nw))).setIfInBounds 14 (.int .i64 ((q.since : Int) + (n : Int)))), mapA bm (q.hs.set (leastId q.hs) n)]) W) : St F w (stars [A, drvA gq g (q.posted n)]) W := by
  rw [posted_cells q g bm low n hq hn hf] at h
  exact drv_shut h hl
set_option maxRecDepth 100000 in
set_option maxHeartbeats 1600000 in
theorem post_ok {F : Nat → Prop} {w : World} {gq g : Nat} {xs : List UInt8} {q : Vs} (h : (stars [memA g xs, drvA gq g q]).P F w) (hq : q.Ok xs.length) (hs : q.since ≤ 1099511627776) {l : List IPt} {A : Option Addr} {cap : Nat} (hP : PsAt A l w) (hF : ∀ ad, A = some ad → ¬ F ad.block)
    (hN : ∀ j (h : j < l.length), l[j].n < 9223372036854775808) (k : chainB xs l = true) (hf : ¬ q.free < l.length) :
    Calls Tryz.prog 5 #[.pointer (some ⟨gq, 0, none⟩), .slice A l.length cap] w (PostP F w gq g ((leastId q.hs : Int), 0, putN q (l.map IPt.pt) (leastId q.hs) xs l.length, q.posted l.length)) := by
  have hl := chain_len k
  obtain ⟨bm, low, hlo, h'⟩ := drv_open h
  have S0 := St.start h'
  obtain ⟨F1, hM⟩ := S0.get 0 (by simp)
  have hx := memA_len hM
  have hb := S0.blk 1 (by simp) rfl
  have HC := isChain_v (cap := cap) ⟨hb.lt, hb.cell 0⟩ hM hP (by omega) hN
  rw [k] at HC
  have HC := Lib.hid HC
  obtain ⟨b, off, rfl, hbl, -⟩ := hP 0 (by omega)
  have hbF : ¬ F b := hF _ rfl
  have hfl := free_le hq
  have hroom := post_room hq hl.1 hf
  have hhl := hq.hl
  have s2 := hq.s2
  have HSm : ∀ W, St F w (stars [memA g xs, box gq 77 (q.cells g bm low), mapA bm q.hs]) W → Calls Tryz.prog 28 #[.pointer (some ⟨gq, 0, none⟩)] W fun e w' => e = .returned (.int .i64 (leastId q.hs : Int)) ∧ W = w' := fun W hS => by
    have hB := hS.blk 1 (by simp) rfl
    obtain ⟨F2, hm⟩ := hS.get 2 (by simp)
    exact smallest_v (hB.cell 9) (hB.cell 11) hm.1 hlo hroom (by omega)
  have HPut : ∀ W, St F w (stars [memA g xs, box gq 77 (q.cells g bm low), mapA bm q.hs]) W → Calls Tryz.prog 29 #[.pointer (some ⟨gq, 0, none⟩), .int .i64 (leastId q.hs : Int), .slice (some ⟨b, off, none⟩) l.length cap] W fun e w' => e = .returned (.tuple #[]) ∧ St F w (stars [memA g (putN q (l.map IPt.pt) (leastId q.hs) xs l.length), box gq 77 (q.cells g bm low), mapA bm q.hs]) w' := fun W hS => by
    obtain ⟨F2, hA, hF2, hback⟩ := hS.twox 0 1 (by omega) (by simp)
    have hP' := hP.step hS.step (fun ad e => by injection e with e; subst e; exact hbF)
    exact (put_v hA hq hP' (fun e => by rcases hF2 b e with e | e; exact hbF e; omega) (chainB_in hx k) hl.1 hl.2 (by omega) (by omega) hx).mono fun _ _ ⟨he, hs⟩ => ⟨he, hback _ _ _ hs⟩
  have HSm := Lib.hid HSm
  have HPut := Lib.hid HPut
  have HS := Lib.hid S0
  have HQ := Lib.hid hq
  have HF := Lib.hid hf
  have HL1 := Lib.hid hl.1
  have HR := Lib.hid hroom
  have HLo := Lib.hid (low_post hroom (n := l.length) (by omega))
  have hlm := hl.2
  have hfr : (q.free : Int) ≤ 32768 := by omega
  have hlm1 : 1 ≤ l.length := hl.1
  obtain ⟨ys, hys⟩ : ∃ ys, putN q (l.map IPt.pt) (leastId q.hs) xs l.length = ys := ⟨_, rfl⟩
  rw [hys] at HPut ⊢
  obtain ⟨m, hm⟩ : ∃ m, l.length = m := ⟨_, rfl⟩
  rw [hm] at HC HPut HF HL1 HLo hlm hlm1 ⊢
  have hf2 : ¬ (q.free : Int) < (m : Int) := by have := HF.out; omega
  have hsz : leastId q.hs ≤ 32768 := by omega
  have hlt := hb.lt
  clear h h' S0 hM hb hP hN hF hlo hf hl hm hys hroom hq hfl hhl hx k
  go_enter Tryz.func5, Tryz.ntmps5
  go_wp2_with fail
  refine HC.out.mono ?_
  rintro e w1 ⟨rfl, hb⟩
  have S1 := HS.out.below hb
  have c10 : w1.cell? ⟨gq, 10, none⟩ = some (.int .i64 (q.free : Int)) := (S1.blk 1 (by simp) rfl).cell 10
  have S1 := Lib.hid S1
  clear hb
  go_wp2_with fail
  refine (HSm.out _ S1.out).mono ?_
  rintro e w2 ⟨rfl, rfl⟩
  go_wp2_with fail
  refine (HPut.out _ S1.out).mono ?_
  rintro e w3 ⟨rfl, S3⟩
  clear c10
  have c9 : w3.cell? ⟨gq, 9, none⟩ = some (.map (some bm)) := (S3.blk 1 (by simp) rfl).cell 9
  obtain ⟨F3, hm3, hback⟩ := S3.at 2 (by simp)
  obtain ⟨w4, hrun, hS4⟩ := mapA_store hm3 HR.out (n := m) hlm1 (by have := HQ.out.hl; omega) (by omega)
  have S4 := hback _ _ hS4
  have b4 := S4.blk 1 (by simp) rfl
  have c10 : w4.cell? ⟨gq, 10, none⟩ = some (.int .i64 (q.free : Int)) := b4.cell 10
  have c11 : w4.cell? ⟨gq, 11, none⟩ = some (.int .i64 (low : Int)) := b4.cell 11
  have f11 := b4.frozen 11
  have f10 := b4.frozen 10
  have hlt4 := b4.lt
  have hne4 := Nat.ne_of_lt hlt4
  have c5 : w4.cell? ⟨gq, 5, none⟩ = some (.int .i64 (q.na : Int)) := b4.cell 5
  have c6 : w4.cell? ⟨gq, 6, none⟩ = some (.bool q.nw) := b4.cell 6
  have S6 : St F w (stars [memA g ys, box gq 77 (((q.cells g bm low).setIfInBounds 11 (.int .i64 ((leastId q.hs : Int) + 1))).setIfInBounds 10 (.int .i64 ((q.free : Int) - (m : Int)))), mapA bm (q.hs.set (leastId q.hs) m)]) ((w4.setCell ⟨gq, 11, none⟩ (.int .i64 ((leastId q.hs : Int) + 1))).setCell ⟨gq, 10, none⟩ (.int .i64 ((q.free : Int) - (m : Int)))) := (S4.put 1 (by simp) rfl 11 (.int .i64 ((leastId q.hs : Int) + 1))).put 1 (by simp) rfl 10 (.int .i64 ((q.free : Int) - (m : Int)))
  have S6 := Lib.hid S6
  have v1 : IntKind.i64.wrap ((leastId q.hs : Int) + 1) = (leastId q.hs : Int) + 1 := by rw [IntKind.wrap_i64]; omega
  have v2 : IntKind.i64.wrap ((q.free : Int) - (m : Int)) = (q.free : Int) - (m : Int) := by rw [IntKind.wrap_i64]; omega
  have v3 : IntKind.i64.wrap ((q.since : Int) + (m : Int)) = (q.since : Int) + (m : Int) := by rw [IntKind.wrap_i64]; omega
  have HA : ∀ W, St F w (stars [memA g ys, box gq 77 (((q.cells g bm low).setIfInBounds 11 (.int .i64 ((leastId q.hs : Int) + 1))).setIfInBounds 10 (.int .i64 ((q.free : Int) - (m : Int)))), mapA bm (q.hs.set (leastId q.hs) m)]) W → Calls Tryz.prog 30 #[.pointer (some ⟨gq, 0, none⟩), .agg #[.int .i64 (q.na : Int), .bool q.nw], .int .i64 (m : Int)] W fun e w' => e = .returned (.agg #[.int .i64 (stA q.size q.na m : Int), .bool (stW q.size q.na m q.nw)]) ∧ Below W.heap.size W w' := fun W hS => by
    have hB := hS.blk 1 (by simp) rfl
    have hq := HQ.out
    exact after_v (n := q.size) ⟨hB.lt, hB.cell 2⟩ q.na m q.nw hq.s1 hq.s2 hq.na (by have := free_le hq; have := HF.out; omega)
  have HA := Lib.hid HA
  clear S3 S4 b4 hm3 hback hS4 HPut HSm HC S1
  go_wp2_with fail
  refine (HA.out _ S6.out).mono ?_
  rintro e w7 ⟨rfl, hb⟩
  have S7 := S6.out.below hb
  have b7 := S7.blk 1 (by simp) rfl
  have c14 : w7.cell? ⟨gq, 14, none⟩ = some (.int .i64 (q.since : Int)) := b7.cell 14
  have d5 : w7.cell? ⟨gq, 5, none⟩ = some (.int .i64 (q.na : Int)) := b7.cell 5
  have d6 : w7.cell? ⟨gq, 6, none⟩ = some (.bool q.nw) := b7.cell 6
  have f5 := b7.frozen 5
  have f6 := b7.frozen 6
  have f14 := b7.frozen 14
  have hlt7 := b7.lt
  have hne7 := Nat.ne_of_lt hlt7
  have S8 := ((S7.put 1 (by simp) rfl 5 (.int .i64 (stA q.size q.na m : Int))).put 1 (by simp) rfl 6 (.bool (stW q.size q.na m q.nw))).put 1 (by simp) rfl 14 (.int .i64 ((q.since : Int) + (m : Int)))
  have S9 := Lib.hid (posted_st HQ.out HL1.out HF.out HLo.out S8)
  clear S8 S7 b7 hb S6 HA
  go_wp2_with fail
  go_ret2
  exact ⟨rfl, S9.out⟩
theorem post_v {F : Nat → Prop} {w : World} {gq g : Nat} {xs : List UInt8} {q : Vs} (h : (stars [memA g xs, drvA gq g q]).P F w) (hq : q.Ok xs.length) (hs : q.since ≤ 1099511627776) {l : List IPt} {A : Option Addr} {cap : Nat} (hP : PsAt A l w) (hF : ∀ ad, A = some ad → ¬ F ad.block) (hl : l.length ≤ 1099511627776)
    (hN : ∀ j (h : j < l.length), l[j].n < 9223372036854775808) (r : Int × Int × List UInt8 × Vs) (hr : postC xs q l = r) :
    Calls Tryz.prog 5 #[.pointer (some ⟨gq, 0, none⟩), .slice A l.length cap] w (PostP F w gq g r) := by
  subst hr
  unfold postC
  split
  · rename_i k
    split
    · rename_i hf; exact post_full h hP hl hN k hf
    · rename_i hf; exact post_ok h hq hs hP hF hN k hf
  · rename_i k; exact post_form h hP hl hN (by simpa using k)
end Go.Proofs.YtbpgblmhacpjlaaGreat
