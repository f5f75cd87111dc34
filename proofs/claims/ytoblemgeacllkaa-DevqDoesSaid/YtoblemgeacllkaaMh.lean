/-
  The document's Done, Tell and Ask, and the code's and the document's queue side by side.
-/
import Derived.Test.YtoblemgeacllkaaMg
import Derived.Test.YtoblemgeacllkaaDr7
import Derived.Test.YtoblemgeacllkaaMf
import Derived.Test.YtoblemgeacllkaaDq11
import Derived.Test.YtoblemgeacllkaaDl7
namespace Go.Proofs.Ytoblemgeacllkaa
open Go.RowKit

theorem Ro.noted {B gx gk : Nat} {lv : Value} {xs' : List UInt8} {lg' : List Acc} {q' : Qs} {w w1 : World} (h : Ro B gx gk lv q' xs' lg' w w1) :
    ∃ lv1, Mr B gk lv1 xs' lg' w1 ∧ ∀ ys lg2 w2, Rnoted B gk lv1 ys lg2 w1 w2 → Ro B gx gk lv q' ys lg2 w w2 := by
  obtain ⟨lv1, hM, hL⟩ := h.mem
  refine ⟨lv1, hM, fun ys lg2 w2 hN => ?_⟩
  obtain ⟨lv2, hM2, ⟨h1, h2, h3, h4, h5⟩, hL2⟩ := hN
  obtain ⟨ag, hb⟩ := hM.blk
  refine ⟨h.blk.same (h5 _ h.blk.lt (h.blk.ne hb (by decide))), ⟨lv2, hM2, fun k hk => ?_⟩, h1.trans h.os, h2.trans h.tape, h3.trans h.output, Nat.le_trans h.size h4, fun k hk a b => (h5 k (by have := h.size; omega) b).trans (h.block k hk a b)⟩
  rcases hL2 k hk with e | e
  · exact hL k e
  · right; have := h.size; omega
/-- the bytes as the document writes them are those as the code does -/
theorem digs_val (l : List UInt8) (n : Nat) (h : l.length = n) : digs (val l) n = l := by
  induction l generalizing n with
  | nil => subst h; rfl
  | cons c l ih =>
    subst h
    have hc : c.toNat < 256 := c.toNat_lt
    have e1 : (c.toNat + 256 * val l) / 256 = val l := by omega
    have e2 : UInt8.ofNat (c.toNat + 256 * val l) = c := by
      apply UInt8.toNat_inj.1
      rw [UInt8.toNat_ofNat']; omega
    simp only [val, List.length_cons, digs, e1, e2, ih _ rfl]
theorem des_get (A L I F j : Nat) : (desB A L I F).data.toList[j]? = if j < 8 then (digs A 8)[j]? else (digs L 4 ++ (digs I 2 ++ digs F 2))[j - 8]? := by
  rw [desB_list]
  by_cases h : j < 8
  · rw [if_pos h, List.getElem?_append_left (by rw [digs_length]; exact h)]
  · rw [if_neg h, List.getElem?_append_right (by rw [digs_length]; omega), digs_length]
theorem ext_get (s : ByteArray) (a b j : Nat) (hb : b ≤ s.size) : (s.extract a b).data.toList[j]? = if j < b - a then s.data.toList[a + j]? else none := by
  have e : (s.extract a b).data.toList = (s.data.toList.drop a).take (b - a) := by
    rw [ByteArray.data_extract, Array.toList_extract]
  have _ := hb
  rw [e, cut_get]
theorem over_three (xs : List UInt8) (n : Nat) (s t : ByteArray) (hs : s.size = 16) (ht : t.size = 16) (h : n + 16 ≤ xs.length) (h8 : ∀ j, j < 8 → s.data.toList[j]? = xs[n + j]?) (h16 : ∀ j, 8 ≤ j → s.data.toList[j]? = t.data.toList[j]?) :
    over xs n s = over (over xs (n + 8) (t.extract 8 14)) (n + 14) (t.extract 14 16) := by
  have g1 : ∀ j, (t.extract 8 14).data.toList[j]? = if j < 6 then t.data.toList[8 + j]? else none := fun j => ext_get t 8 14 j (by omega)
  have g2 : ∀ j, (t.extract 14 16).data.toList[j]? = if j < 2 then t.data.toList[14 + j]? else none := fun j => ext_get t 14 16 j (by omega)
  have e1 : (t.extract 8 14).size = 6 := by rw [ByteArray.size_extract, ht]; rfl
  have e2 : (t.extract 14 16).size = 2 := by rw [ByteArray.size_extract, ht]; rfl
  generalize t.extract 8 14 = a at *
  generalize t.extract 14 16 = b at *
  have l1 : (over xs (n + 8) a).length = xs.length := over_length _ _ _ (by omega)
  apply List.ext_getElem?
  intro j
  rw [over_in _ _ _ (by omega), over_in _ _ _ (by omega), over_in _ _ _ (by omega), hs, e1, e2]
  by_cases c1 : n ≤ j ∧ j < n + 16
  · rw [if_pos c1]
    by_cases c2 : j < n + 8
    · rw [if_neg (by omega), if_neg (by omega), h8 _ (by omega)]
      congr 1; omega
    · rw [h16 _ (by omega)]
      by_cases c3 : j < n + 14
      · rw [if_neg (by omega), if_pos (by omega), g1, if_pos (by omega)]
        congr 1; omega
      · rw [if_pos (by omega), g2, if_pos (by omega)]
        congr 1; omega
  · rw [if_neg c1, if_neg (by omega), if_neg (by omega)]
theorem used_eq (xs : List UInt8) (q : Qs) (id wr : Nat) (hq : q.Ok xs.length) : over xs (q.ring + 16 * q.ba) (desB (deAt xs (q.ring + 16 * q.ba)).a wr id (doneF q wr)) = usedX xs q id wr := by
  have h1 := hq.r
  have h2 := hq.ba
  have hn : q.ring + 16 * q.ba + 16 ≤ xs.length := by omega
  refine over_three xs _ _ _ (desB_size _ _ _ _) (desB_size _ _ _ _) hn (fun j hj => ?_) (fun j hj => ?_)
  · have hl : ((xs.drop (q.ring + 16 * q.ba)).take 8).length = 8 := by simp; omega
    have hv : (deAt xs (q.ring + 16 * q.ba)).a = val ((xs.drop (q.ring + 16 * q.ba)).take 8) := by
      show val (cutl (cut16 xs (q.ring + 16 * q.ba)) 0 8) = _
      congr 1
      unfold cutl cut16
      simp [List.take_take]
    rw [des_get, if_pos hj, hv, digs_val _ 8 hl, cut_get, if_pos hj]
  · rw [des_get, des_get, if_neg (by omega), if_neg (by omega)]
/-- Done's answer -/
def RdP (B gx gk : Nat) (lv : Value) (lg : List Acc) (w : World) (r : Int × List UInt8 × Qs) (e : Ending) (w' : World) : Prop :=
  e = .returned (.int .i64 r.1) ∧ ∃ lg', lg'.length ≤ lg.length + 1 ∧ Ro B gx gk lv r.2.2 r.2.1 lg' w w'
set_option maxRecDepth 100000 in
theorem rdone_bad0 {B gx gk : Nat} {lv : Value} {xs : List UInt8} {lg : List Acc} {q : Qs} {w : World} (h : Od B gx gk lv xs lg q w) (hb : q.broken = false) (id count written : Int) (k0 : id < 0) :
    Calls Try.prog 15 #[.pointer (some ⟨gx, 0, none⟩), .int .i64 id, .int .i64 count, .int .i64 written] w (RdP B gx gk lv lg w (1, xs, q)) := by
  have hB : w.cell? ⟨gx, 13, none⟩ = some (.bool false) := by rw [← hb]; exact h.blk.cell 13
  have p12 : w.cell? ⟨gx, 12, none⟩ = some (.int .i64 (q.out : Int)) := h.blk.cell 12
  have HE := Lib.hid (Ro.refl h)
  have q1 : decide (id < 0) = true := decide_eq_true k0
  clear k0 h hb
  go_enter Try.func15, Try.ntmps15
  go_wp2_with fail
  go_ret
  exact ⟨rfl, lg, Nat.le_succ _, HE.out⟩
set_option maxRecDepth 100000 in
theorem rdone_bad1 {B gx gk : Nat} {lv : Value} {xs : List UInt8} {lg : List Acc} {q : Qs} {w : World} (h : Od B gx gk lv xs lg q w) (hb : q.broken = false) (id count written : Int) (k0 : ¬ id < 0) (k1 : 65535 < id) :
    Calls Try.prog 15 #[.pointer (some ⟨gx, 0, none⟩), .int .i64 id, .int .i64 count, .int .i64 written] w (RdP B gx gk lv lg w (1, xs, q)) := by
  have hB : w.cell? ⟨gx, 13, none⟩ = some (.bool false) := by rw [← hb]; exact h.blk.cell 13
  have p12 : w.cell? ⟨gx, 12, none⟩ = some (.int .i64 (q.out : Int)) := h.blk.cell 12
  have HE := Lib.hid (Ro.refl h)
  have q1 : decide (id < 0) = false := decide_eq_false k0
  have q2 : decide (65535 < id) = true := decide_eq_true k1
  clear k0 k1 h hb
  go_enter Try.func15, Try.ntmps15
  go_wp2_with fail
  go_ret
  exact ⟨rfl, lg, Nat.le_succ _, HE.out⟩
set_option maxRecDepth 100000 in
theorem rdone_bad2 {B gx gk : Nat} {lv : Value} {xs : List UInt8} {lg : List Acc} {q : Qs} {w : World} (h : Od B gx gk lv xs lg q w) (hb : q.broken = false) (id count written : Int) (k0 : ¬ id < 0) (k1 : ¬ 65535 < id) (k2 : count < 1) :
    Calls Try.prog 15 #[.pointer (some ⟨gx, 0, none⟩), .int .i64 id, .int .i64 count, .int .i64 written] w (RdP B gx gk lv lg w (1, xs, q)) := by
  have hB : w.cell? ⟨gx, 13, none⟩ = some (.bool false) := by rw [← hb]; exact h.blk.cell 13
  have p12 : w.cell? ⟨gx, 12, none⟩ = some (.int .i64 (q.out : Int)) := h.blk.cell 12
  have HE := Lib.hid (Ro.refl h)
  have q1 : decide (id < 0) = false := decide_eq_false k0
  have q2 : decide (65535 < id) = false := decide_eq_false k1
  have q3 : decide (count < 1) = true := decide_eq_true k2
  clear k0 k1 k2 h hb
  go_enter Try.func15, Try.ntmps15
  go_wp2_with fail
  go_ret
  exact ⟨rfl, lg, Nat.le_succ _, HE.out⟩
set_option maxRecDepth 100000 in
theorem rdone_bad3 {B gx gk : Nat} {lv : Value} {xs : List UInt8} {lg : List Acc} {q : Qs} {w : World} (h : Od B gx gk lv xs lg q w) (hb : q.broken = false) (id count written : Int) (k0 : ¬ id < 0) (k1 : ¬ 65535 < id) (k2 : ¬ count < 1) (k3 : (q.out : Int) < count) :
    Calls Try.prog 15 #[.pointer (some ⟨gx, 0, none⟩), .int .i64 id, .int .i64 count, .int .i64 written] w (RdP B gx gk lv lg w (1, xs, q)) := by
  have hB : w.cell? ⟨gx, 13, none⟩ = some (.bool false) := by rw [← hb]; exact h.blk.cell 13
  have p12 : w.cell? ⟨gx, 12, none⟩ = some (.int .i64 (q.out : Int)) := h.blk.cell 12
  have HE := Lib.hid (Ro.refl h)
  have q1 : decide (id < 0) = false := decide_eq_false k0
  have q2 : decide (65535 < id) = false := decide_eq_false k1
  have q3 : decide (count < 1) = false := decide_eq_false k2
  have q4 : decide ((q.out : Int) < count) = true := decide_eq_true k3
  clear k0 k1 k2 k3 h hb
  go_enter Try.func15, Try.ntmps15
  go_wp2_with fail
  go_ret
  exact ⟨rfl, lg, Nat.le_succ _, HE.out⟩
set_option maxRecDepth 100000 in
theorem rdone_bad4 {B gx gk : Nat} {lv : Value} {xs : List UInt8} {lg : List Acc} {q : Qs} {w : World} (h : Od B gx gk lv xs lg q w) (hb : q.broken = false) (id count written : Int) (k0 : ¬ id < 0) (k1 : ¬ 65535 < id) (k2 : ¬ count < 1) (k3 : ¬ (q.out : Int) < count) (k4 : written < 0) :
    Calls Try.prog 15 #[.pointer (some ⟨gx, 0, none⟩), .int .i64 id, .int .i64 count, .int .i64 written] w (RdP B gx gk lv lg w (1, xs, q)) := by
  have hB : w.cell? ⟨gx, 13, none⟩ = some (.bool false) := by rw [← hb]; exact h.blk.cell 13
  have p12 : w.cell? ⟨gx, 12, none⟩ = some (.int .i64 (q.out : Int)) := h.blk.cell 12
  have HE := Lib.hid (Ro.refl h)
  have q1 : decide (id < 0) = false := decide_eq_false k0
  have q2 : decide (65535 < id) = false := decide_eq_false k1
  have q3 : decide (count < 1) = false := decide_eq_false k2
  have q4 : decide ((q.out : Int) < count) = false := decide_eq_false k3
  have q5 : decide (written < 0) = true := decide_eq_true k4
  clear k0 k1 k2 k3 k4 h hb
  go_enter Try.func15, Try.ntmps15
  go_wp2_with fail
  go_ret
  exact ⟨rfl, lg, Nat.le_succ _, HE.out⟩
set_option maxRecDepth 100000 in
theorem rdone_bad5 {B gx gk : Nat} {lv : Value} {xs : List UInt8} {lg : List Acc} {q : Qs} {w : World} (h : Od B gx gk lv xs lg q w) (hb : q.broken = false) (id count written : Int) (k0 : ¬ id < 0) (k1 : ¬ 65535 < id) (k2 : ¬ count < 1) (k3 : ¬ (q.out : Int) < count) (k4 : ¬ written < 0) (k5 : 4294967295 < written) :
    Calls Try.prog 15 #[.pointer (some ⟨gx, 0, none⟩), .int .i64 id, .int .i64 count, .int .i64 written] w (RdP B gx gk lv lg w (1, xs, q)) := by
  have hB : w.cell? ⟨gx, 13, none⟩ = some (.bool false) := by rw [← hb]; exact h.blk.cell 13
  have p12 : w.cell? ⟨gx, 12, none⟩ = some (.int .i64 (q.out : Int)) := h.blk.cell 12
  have HE := Lib.hid (Ro.refl h)
  have q1 : decide (id < 0) = false := decide_eq_false k0
  have q2 : decide (65535 < id) = false := decide_eq_false k1
  have q3 : decide (count < 1) = false := decide_eq_false k2
  have q4 : decide ((q.out : Int) < count) = false := decide_eq_false k3
  have q5 : decide (written < 0) = false := decide_eq_false k4
  have q6 : decide (4294967295 < written) = true := decide_eq_true k5
  clear k0 k1 k2 k3 k4 k5 h hb
  go_enter Try.func15, Try.ntmps15
  go_wp2_with fail
  go_ret
  exact ⟨rfl, lg, Nat.le_succ _, HE.out⟩
set_option maxRecDepth 100000 in
theorem rdone_broken {B gx gk : Nat} {lv : Value} {xs : List UInt8} {lg : List Acc} {q : Qs} {w : World} (h : Od B gx gk lv xs lg q w) (hb : q.broken = true) (id count written : Int) :
    Calls Try.prog 15 #[.pointer (some ⟨gx, 0, none⟩), .int .i64 id, .int .i64 count, .int .i64 written] w (RdP B gx gk lv lg w (141, xs, q)) := by
  have hB : w.cell? ⟨gx, 13, none⟩ = some (.bool true) := by rw [← hb]; exact h.blk.cell 13
  have HE := Lib.hid (Ro.refl h)
  clear h hb
  go_enter Try.func15, Try.ntmps15
  go_wp2_with fail
  go_ret
  exact ⟨rfl, lg, Nat.le_succ _, HE.out⟩
/-- Done under way: its descriptor, the queue -/
def DG (B gx gk : Nat) (lv : Value) (xs : List UInt8) (lg : List Acc) (q : Qs) (w : World) (D : Nat) (d : De) (W : World) : Prop :=
  (W.cell? ⟨D, 0, none⟩ = some (.int .u64 (d.a : Int)) ∧ W.cell? ⟨gx, 8, none⟩ = some (.bool q.bw)) ∧ Ro B gx gk lv q xs lg w W ∧ Blk W D 35 #[.int .u64 (d.a : Int), .int .u32 (d.n : Int), .int .i64 (d.id : Int), .int .i64 (d.f : Int)]
theorem DG.of {B gx gk : Nat} {lv : Value} {xs : List UInt8} {lg : List Acc} {q : Qs} {w : World} {D : Nat} {d : De} {W : World} (h : Ro B gx gk lv q xs lg w W) (k : Blk W D 35 #[.int .u64 (d.a : Int), .int .u32 (d.n : Int), .int .i64 (d.id : Int), .int .i64 (d.f : Int)]) : DG B gx gk lv xs lg q w D d W := ⟨⟨k.cell 0, h.blk.cell 8⟩, h, k⟩
theorem DG.next {B gx gk : Nat} {lv : Value} {xs : List UInt8} {lg : List Acc} {q : Qs} {w : World} {D : Nat} {d : De} {W W' : World} (h : DG B gx gk lv xs lg q w D d W) (hq : Below W.heap.size W W') : DG B gx gk lv xs lg q w D d W' := DG.of (h.2.1.below hq) (h.2.2.same (hq.block _ h.2.2.lt))
set_option maxRecDepth 100000 in
set_option maxHeartbeats 6400000 in
theorem rdone_good {B gx gk : Nat} {lv : Value} {xs : List UInt8} {lg : List Acc} {q : Qs} {w : World} (h : Od B gx gk lv xs lg q w) (hlg : lg.length ≤ 4000) (hq : q.Ok xs.length) (hb : q.broken = false) (id k wr : Nat) (hid : id ≤ 65535) (hk : 1 ≤ k) (hk2 : k ≤ q.out) (hwr : wr < 4294967296) (hs : q.since ≤ 1099511627776) :
    Calls Try.prog 15 #[.pointer (some ⟨gx, 0, none⟩), .int .i64 (id : Int), .int .i64 (k : Int), .int .i64 (wr : Int)] w (RdP B gx gk lv lg w (0, usedX xs q id wr, doneQ q k)) := by
  have hB : w.cell? ⟨gx, 13, none⟩ = some (.bool false) := by rw [← hb]; exact h.blk.cell 13
  have p12 : w.cell? ⟨gx, 12, none⟩ = some (.int .i64 (q.out : Int)) := h.blk.cell 12
  have p1 : w.cell? ⟨gx, 1, none⟩ = some (.int .i64 (q.ring : Int)) := h.blk.cell 1
  have p7 : w.cell? ⟨gx, 7, none⟩ = some (.int .i64 (q.ba : Int)) := h.blk.cell 7
  have HE := Lib.hid (Ro.refl h)
  have HQ := Lib.hid hq
  have hlx := h.mem.len
  have ho2 := hq.out
  have hz2 := hq.s2
  have hr1 := hq.r
  have hba := hq.ba
  have q1 : decide ((id : Int) < 0) = false := decide_eq_false (by omega)
  have q2 : decide (65535 < (id : Int)) = false := decide_eq_false (by omega)
  have q2' : decide (65535 < id) = false := decide_eq_false (by omega)
  have q3 : decide ((k : Int) < 1) = false := decide_eq_false (by omega)
  have q3' : decide (k < 1) = false := decide_eq_false (by omega)
  have q4 : decide (q.out < k) = false := decide_eq_false (by omega)
  have q5 : decide ((wr : Int) < 0) = false := decide_eq_false (by omega)
  have q6 : decide (4294967295 < (wr : Int)) = false := decide_eq_false (by omega)
  have n1 : ((q.out - k : Nat) : Int) = (q.out : Int) - (k : Int) := by omega
  have N1 := Lib.hid n1
  obtain ⟨b, hb0, e1⟩ : ∃ b : Nat, 16 * q.ba = b ∧ (16 : Int) * (q.ba : Int) = (b : Int) := ⟨_, rfl, by omega⟩
  obtain ⟨n, hn0, e2⟩ : ∃ n : Nat, q.ring + 16 * q.ba = n ∧ (q.ring : Int) + (b : Int) = (n : Int) := ⟨_, rfl, by omega⟩
  have v1 : IntKind.i64.wrap (b : Int) = (b : Int) := by rw [IntKind.wrap_i64]; omega
  have v2 : IntKind.i64.wrap (n : Int) = (n : Int) := by rw [IntKind.wrap_i64]; omega
  have HX := fun W (h : Rq gx gk q xs W) => rat_any h n (by omega)
  have hdok := deAt_ok xs n (by omega)
  have hue := used_eq xs q id wr hq
  rw [hn0] at hue
  obtain ⟨d, hd⟩ : ∃ d, deAt xs n = d := ⟨_, rfl⟩
  rw [hd] at HX hdok hue
  obtain ⟨F, hF⟩ : ∃ F, doneF q wr = F := ⟨_, rfl⟩
  have hFl := doneF_lt q wr
  rw [hF] at hue hFl
  obtain ⟨S, hS⟩ : ∃ S, desB d.a wr id F = S := ⟨_, rfl⟩
  have hSz : S.size = 16 := by rw [← hS]; exact desB_size _ _ _ _
  have HBd := Lib.hid (build_is d.a wr id F hdok.a hwr hid hFl S hS)
  rw [hS] at hue
  have HUe := Lib.hid hue
  have v3 : IntKind.u32.wrap (wr : Int) = (wr : Int) := IntWalk.u32_in _ (by omega)
  have hin : (0 : Int) ≤ (n : Int) ∧ (n : Int) + (S.size : Int) ≤ (xs.length : Int) := by omega
  have HWr := fun lv1 W (hM : Mr B gk lv1 xs lg W) => rwrite_any hM hlg (n : Int) S
  unfold RwP wrE wrX at HWr
  rw [if_pos hin, if_pos hin, Int.toNat_natCast, hue] at HWr
  have HWr := Lib.hid HWr
  have hmk : ∀ (R : Nat), Rest R → R + mk q.bw (q.bw == true) = F → ∀ W, Calls Try.prog 28 #[.int .i64 (R : Int), .bool q.bw, .bool true] W fun e W' => e = .returned (.int .i64 (F : Int)) ∧ W = W' := fun R hR e W => by
    subst e
    exact rmark_any R hR false false q.bw true W
  unfold De.v at HX
  have HX := Lib.hid HX
  have HA := Lib.hid (fun (X : List UInt8) W (h2 : Rq gx gk q X W) => rafter_any h2 q.ba k q.bw hq.s1 hq.s2 hq.ba (by omega))
  have hs2 : (q.since : Int) ≤ 1099511627776 := by omega
  have hk3 : (k : Int) ≤ (q.out : Int) := by omega
  have ho3 : (q.out : Int) ≤ 32768 := by omega
  have Hwr0 := Lib.hid hwr
  have HF := Lib.hid hF
  clear h hq hb hid hk hk2 hwr hs ho2 hz2 n1 hb0 hn0 hdok hd hS hFl hue hF hin hr1 hba hSz hlg
  by_cases k0 : 0 < wr
  · have HM : ∀ W, Calls Try.prog 28 #[.int .i64 2, .bool q.bw, .bool true] W fun e W' => e = .returned (.int .i64 (F : Int)) ∧ W = W' := hmk 2 rest_2 (by rw [← HF.out, doneF, if_pos k0])
    have HM := Lib.hid HM
    have z0 : (0 : Int) < (wr : Int) := by omega
    clear hmk
    go_enter Try.func15, Try.ntmps15
    go_wp2_with fail
    go_quiet (fail)
    have R1 := HE.out.below (below_drewN (Below.refl w.heap.size w) nq)
    obtain ⟨W1, hW1⟩ : ∃ W1, w.drewN nq = W1 := ⟨_, rfl⟩
    rw [hW1] at R1 ⊢
    have R1 := Lib.hid R1
    clear hW1 hB p12 p1 p7
    go_wp2_with fail
    refine (HX.out _ R1.out.rq).mono ?_
    rintro e w2 ⟨rfl, hq2⟩
    have R2 := R1.out.below (b0 (Below.refl _ _) hq2)
    have R2 := R2.below (ba (Below.refl w2.heap.size w2) (.cells #[.int .u64 (d.a : Int), .int .u32 (d.n : Int), .int .i64 (d.id : Int), .int .i64 (d.f : Int)] 35))
    have kD := Blk.new w2 35 #[.int .u64 (d.a : Int), .int .u32 (d.n : Int), .int .i64 (d.id : Int), .int .i64 (d.f : Int)]
    obtain ⟨W2, hW2⟩ : ∃ W2, w2.alloc (.cells #[.int .u64 (d.a : Int), .int .u32 (d.n : Int), .int .i64 (d.id : Int), .int .i64 (d.f : Int)] 35) = W2 := ⟨_, rfl⟩
    obtain ⟨D, hD⟩ : ∃ D, w2.heap.size = D := ⟨_, rfl⟩
    rw [hW2] at R2 kD
    rw [hD] at kD
    have HW2 := Lib.hid hW2
    have G0 := DG.of R2.below0 kD.drewN
    clear R1 hq2 hW2 kD R2 HX
    go_wp2_with (rw [HW2.out])
    try rw [hD]
    go_wp2_with fail
    go_region_held3 (fun W => (W.cell? ⟨D, 0, none⟩ = some (.int .u64 (d.a : Int)) ∧ W.cell? ⟨gx, 8, none⟩ = some (.bool q.bw)) ∧ Ro B gx gk lv q xs lg w W ∧ Blk W D 35 #[.int .u64 (d.a : Int), .int .u32 (d.n : Int), .int .i64 (d.id : Int), .int .i64 (d.f : Int)])
      ((refine (_root_.id (α := DG B gx gk lv xs lg q w D d _) ?_); with_reducible (first | exact G0 | exact DG.next G0 hq)))
      (first | (go_at_call 28; ((with_reducible refine (HM.out _).mono ?_); rintro e w3 ⟨rfl, rfl⟩)) | (go_at_call 29; ((with_reducible refine (HBd.out _).mono ?_); rintro e w3 ⟨rfl, hq⟩)))
    have R3 := (G0.next hq).2.1
    have g0 : w3.cell? ⟨gx, 0, none⟩ = some (.pointer (some ⟨gk, 0, none⟩)) := R3.blk.cell 0
    have R3 := Lib.hid R3
    clear G0 hq hD
    go_wp2_with fail
    obtain ⟨lv1, hM3, hN3⟩ := R3.out.noted
    have hN3 := Lib.hid hN3
    refine (HWr.out lv1 _ hM3).mono ?_
    rintro e w4 ⟨rfl, lg', hlg', hRn⟩
    have R4 := hN3.out _ _ _ hRn
    have b7 : w4.cell? ⟨gx, 7, none⟩ = some (.int .i64 (q.ba : Int)) := R4.blk.cell 7
    have b8 : w4.cell? ⟨gx, 8, none⟩ = some (.bool q.bw) := R4.blk.cell 8
    have R4 := Lib.hid R4
    clear g0 hM3 hRn hN3 R3 HWr
    go_wp2_with fail
    refine (HA.out _ _ R4.out.rq).mono ?_
    rintro e w5 ⟨rfl, hq5⟩
    have R5 := R4.out.below hq5
    have Q2 := ((((R5.set 7 (.int .i64 (stA q.size q.ba k : Int)) (q2 := { q with ba := stA q.size q.ba k }) rfl).set 8 (.bool (stW q.size q.ba k q.bw)) (q2 := { q with ba := stA q.size q.ba k, bw := stW q.size q.ba k q.bw }) rfl).set 12 (.int .i64 ((q.out - k : Nat) : Int)) (q2 := { q with ba := stA q.size q.ba k, bw := stW q.size q.ba k q.bw, out := q.out - k }) rfl).set 11 (.int .i64 ((q.since + k : Nat) : Int)) (q2 := doneQ q k) rfl)
    rw [N1.out, Int.natCast_add] at Q2
    have Q3 := Lib.hid Q2
    have b7 : w5.cell? ⟨gx, 7, none⟩ = some (.int .i64 (q.ba : Int)) := R5.blk.cell 7
    have b8 : w5.cell? ⟨gx, 8, none⟩ = some (.bool q.bw) := R5.blk.cell 8
    have b9 : w5.cell? ⟨gx, 12, none⟩ = some (.int .i64 (q.out : Int)) := R5.blk.cell 12
    have b12 : w5.cell? ⟨gx, 11, none⟩ = some (.int .i64 (q.since : Int)) := R5.blk.cell 11
    have f7 : w5.frozen? ⟨gx, 7, none⟩ = false := R5.blk.frozen 7
    have f8 : w5.frozen? ⟨gx, 8, none⟩ = false := R5.blk.frozen 8
    have f9 : w5.frozen? ⟨gx, 12, none⟩ = false := R5.blk.frozen 12
    have f12 : w5.frozen? ⟨gx, 11, none⟩ = false := R5.blk.frozen 11
    have ltx := R5.blk.lt
    clear Q2 R5 R4 hq5
    go_wp2_with fail
    go_ret
    exact ⟨rfl, lg', hlg', Q3.out⟩

  · have HM : ∀ W, Calls Try.prog 28 #[.int .i64 0, .bool q.bw, .bool true] W fun e W' => e = .returned (.int .i64 (F : Int)) ∧ W = W' := hmk 0 rest_0 (by rw [← HF.out, doneF, if_neg k0])
    have HM := Lib.hid HM
    have z0 : ¬ (0 : Int) < (wr : Int) := by omega
    clear hmk
    go_enter Try.func15, Try.ntmps15
    go_wp2_with fail
    go_quiet (fail)
    have R1 := HE.out.below (below_drewN (Below.refl w.heap.size w) nq)
    obtain ⟨W1, hW1⟩ : ∃ W1, w.drewN nq = W1 := ⟨_, rfl⟩
    rw [hW1] at R1 ⊢
    have R1 := Lib.hid R1
    clear hW1 hB p12 p1 p7
    go_wp2_with fail
    refine (HX.out _ R1.out.rq).mono ?_
    rintro e w2 ⟨rfl, hq2⟩
    have R2 := R1.out.below (b0 (Below.refl _ _) hq2)
    have R2 := R2.below (ba (Below.refl w2.heap.size w2) (.cells #[.int .u64 (d.a : Int), .int .u32 (d.n : Int), .int .i64 (d.id : Int), .int .i64 (d.f : Int)] 35))
    have kD := Blk.new w2 35 #[.int .u64 (d.a : Int), .int .u32 (d.n : Int), .int .i64 (d.id : Int), .int .i64 (d.f : Int)]
    obtain ⟨W2, hW2⟩ : ∃ W2, w2.alloc (.cells #[.int .u64 (d.a : Int), .int .u32 (d.n : Int), .int .i64 (d.id : Int), .int .i64 (d.f : Int)] 35) = W2 := ⟨_, rfl⟩
    obtain ⟨D, hD⟩ : ∃ D, w2.heap.size = D := ⟨_, rfl⟩
    rw [hW2] at R2 kD
    rw [hD] at kD
    have HW2 := Lib.hid hW2
    have G0 := DG.of R2.below0 kD.drewN
    clear R1 hq2 hW2 kD R2 HX
    go_wp2_with (rw [HW2.out])
    try rw [hD]
    go_wp2_with fail
    go_region_held3 (fun W => (W.cell? ⟨D, 0, none⟩ = some (.int .u64 (d.a : Int)) ∧ W.cell? ⟨gx, 8, none⟩ = some (.bool q.bw)) ∧ Ro B gx gk lv q xs lg w W ∧ Blk W D 35 #[.int .u64 (d.a : Int), .int .u32 (d.n : Int), .int .i64 (d.id : Int), .int .i64 (d.f : Int)])
      ((refine (_root_.id (α := DG B gx gk lv xs lg q w D d _) ?_); with_reducible (first | exact G0 | exact DG.next G0 hq)))
      (first | (go_at_call 28; ((with_reducible refine (HM.out _).mono ?_); rintro e w3 ⟨rfl, rfl⟩)) | (go_at_call 29; ((with_reducible refine (HBd.out _).mono ?_); rintro e w3 ⟨rfl, hq⟩)))
    have R3 := (G0.next hq).2.1
    have g0 : w3.cell? ⟨gx, 0, none⟩ = some (.pointer (some ⟨gk, 0, none⟩)) := R3.blk.cell 0
    have R3 := Lib.hid R3
    clear G0 hq hD
    go_wp2_with fail
    obtain ⟨lv1, hM3, hN3⟩ := R3.out.noted
    have hN3 := Lib.hid hN3
    refine (HWr.out lv1 _ hM3).mono ?_
    rintro e w4 ⟨rfl, lg', hlg', hRn⟩
    have R4 := hN3.out _ _ _ hRn
    have b7 : w4.cell? ⟨gx, 7, none⟩ = some (.int .i64 (q.ba : Int)) := R4.blk.cell 7
    have b8 : w4.cell? ⟨gx, 8, none⟩ = some (.bool q.bw) := R4.blk.cell 8
    have R4 := Lib.hid R4
    clear g0 hM3 hRn hN3 R3 HWr
    go_wp2_with fail
    refine (HA.out _ _ R4.out.rq).mono ?_
    rintro e w5 ⟨rfl, hq5⟩
    have R5 := R4.out.below hq5
    have Q2 := ((((R5.set 7 (.int .i64 (stA q.size q.ba k : Int)) (q2 := { q with ba := stA q.size q.ba k }) rfl).set 8 (.bool (stW q.size q.ba k q.bw)) (q2 := { q with ba := stA q.size q.ba k, bw := stW q.size q.ba k q.bw }) rfl).set 12 (.int .i64 ((q.out - k : Nat) : Int)) (q2 := { q with ba := stA q.size q.ba k, bw := stW q.size q.ba k q.bw, out := q.out - k }) rfl).set 11 (.int .i64 ((q.since + k : Nat) : Int)) (q2 := doneQ q k) rfl)
    rw [N1.out, Int.natCast_add] at Q2
    have Q3 := Lib.hid Q2
    have b7 : w5.cell? ⟨gx, 7, none⟩ = some (.int .i64 (q.ba : Int)) := R5.blk.cell 7
    have b8 : w5.cell? ⟨gx, 8, none⟩ = some (.bool q.bw) := R5.blk.cell 8
    have b9 : w5.cell? ⟨gx, 12, none⟩ = some (.int .i64 (q.out : Int)) := R5.blk.cell 12
    have b12 : w5.cell? ⟨gx, 11, none⟩ = some (.int .i64 (q.since : Int)) := R5.blk.cell 11
    have f7 : w5.frozen? ⟨gx, 7, none⟩ = false := R5.blk.frozen 7
    have f8 : w5.frozen? ⟨gx, 8, none⟩ = false := R5.blk.frozen 8
    have f9 : w5.frozen? ⟨gx, 12, none⟩ = false := R5.blk.frozen 12
    have f12 : w5.frozen? ⟨gx, 11, none⟩ = false := R5.blk.frozen 11
    have ltx := R5.blk.lt
    clear Q2 R5 R4 hq5
    go_wp2_with fail
    go_ret
    exact ⟨rfl, lg', hlg', Q3.out⟩

theorem rdone_any {B gx gk : Nat} {lv : Value} {xs : List UInt8} {lg : List Acc} {q : Qs} {w : World} (h : Od B gx gk lv xs lg q w) (hlg : lg.length ≤ 4000) (hq : q.Ok xs.length) (hs : q.since ≤ 1099511627776) (id count written : Int) :
    Calls Try.prog 15 #[.pointer (some ⟨gx, 0, none⟩), .int .i64 id, .int .i64 count, .int .i64 written] w (RdP B gx gk lv lg w (doneC xs q id count written)) := by
  cases hb : q.broken
  · by_cases k : 0 ≤ id ∧ id ≤ 65535 ∧ 1 ≤ count ∧ count ≤ q.out ∧ 0 ≤ written ∧ written ≤ 4294967295
    · have e : doneC xs q id count written = (0, usedX xs q id.toNat written.toNat, doneQ q count.toNat) := by
        unfold doneC
        rw [if_neg (by simp [hb]), if_pos (show doneOk q id count written = true from decide_eq_true k)]
      rw [e]
      obtain ⟨k1, k2, k3, k4, k5, k6⟩ := k
      obtain ⟨i, rfl⟩ := Int.eq_ofNat_of_zero_le k1
      obtain ⟨j, rfl⟩ := Int.eq_ofNat_of_zero_le (Int.le_trans (by decide) k3)
      obtain ⟨m, rfl⟩ := Int.eq_ofNat_of_zero_le k5
      exact rdone_good h hlg hq hb i j m (by omega) (by omega) (by omega) (by omega) hs
    · have e : doneC xs q id count written = (1, xs, q) := by
        unfold doneC
        rw [if_neg (by simp [hb]), if_neg (by unfold doneOk; simpa using k)]
      rw [e]
      by_cases k0 : id < 0
      · exact rdone_bad0 h hb id count written k0
      by_cases k1 : 65535 < id
      · exact rdone_bad1 h hb id count written k0 k1
      by_cases k2 : count < 1
      · exact rdone_bad2 h hb id count written k0 k1 k2
      by_cases k3 : (q.out : Int) < count
      · exact rdone_bad3 h hb id count written k0 k1 k2 k3
      by_cases k4 : written < 0
      · exact rdone_bad4 h hb id count written k0 k1 k2 k3 k4
      by_cases k5 : 4294967295 < written
      · exact rdone_bad5 h hb id count written k0 k1 k2 k3 k4 k5
      · exact absurd (by omega) k
  · have e : doneC xs q id count written = (141, xs, q) := by unfold doneC; rw [if_pos hb]
    rw [e]
    exact rdone_broken h hb id count written
end Go.Proofs.Ytoblemgeacllkaa
namespace Go.Proofs.Ytoblemgeacllkaa
open Go.RowKit

/-- Tell's beginning: what it reads -/
def UG (B gx gk : Nat) (lv : Value) (xs : List UInt8) (lg : List Acc) (q : Qs) (w : World) (S0 : ByteArray) (W : World) : Prop :=
  (W.cell? ⟨gx, 0, none⟩ = some (.pointer (some ⟨gk, 0, none⟩)) ∧ W.cell? ⟨gk, 0, none⟩ = some (.string S0) ∧ W.cell? ⟨gx, 3, none⟩ = some (.int .i64 (q.drv : Int))) ∧ Ro B gx gk lv q xs lg w W
section
variable {B gx gk : Nat} {lv : Value} {xs : List UInt8} {lg : List Acc} {q : Qs} {w : World} {S0 : ByteArray} {W W' : World}
theorem UG.of (h : Ro B gx gk lv q xs lg w W) (hS : ⟨xs.toArray⟩ = S0) : UG B gx gk lv xs lg q w S0 W := ⟨⟨h.blk.cell 0, by rw [← hS]; exact h.rq.c0, h.blk.cell 3⟩, h⟩
theorem UG.next (h : UG B gx gk lv xs lg q w S0 W) (hS : Hid (⟨xs.toArray⟩ = S0)) (hq : Below W.heap.size W W') : UG B gx gk lv xs lg q w S0 W' := UG.of (h.2.below hq) hS.out
theorem UG.drew (h : UG B gx gk lv xs lg q w S0 W) (hS : Hid (⟨xs.toArray⟩ = S0)) : UG B gx gk lv xs lg q w S0 W.drew := h.next hS (Below.refl _ _).drew
theorem UG.alloc (h : UG B gx gk lv xs lg q w S0 W) (hS : Hid (⟨xs.toArray⟩ = S0)) (o : Obj) : UG B gx gk lv xs lg q w S0 (W.alloc o) := h.next hS (ba (Below.refl _ _) _)
theorem UG.stored (h : UG B gx gk lv xs lg q w S0 W) (hS : Hid (⟨xs.toArray⟩ = S0)) {k : Nat} {a0 a1 a2 : Value} (hk : Blk W k 37 #[a0, a1, a2]) (hE : w.heap.size ≤ k) (b0 b1 b2 : Value) :
    UG B gx gk lv xs lg q w S0 (((W.setCell ⟨k, 0, none⟩ b0).setCell ⟨k, 1, none⟩ b1).setCell ⟨k, 2, none⟩ b2) ∧ Blk (((W.setCell ⟨k, 0, none⟩ b0).setCell ⟨k, 1, none⟩ b1).setCell ⟨k, 2, none⟩ b2) k 37 #[b0, b1, b2] := by
  have k1 := hk.put 0 b0
  have k2 := k1.put 1 b1
  have k3 := k2.put 2 b2
  exact ⟨UG.of (((h.2.put hk hE (by decide) (by decide) (by decide) 0 b0).put k1 hE (by decide) (by decide) (by decide) 1 b1).put k2 hE (by decide) (by decide) (by decide) 2 b2) hS.out, by simpa using k3⟩
theorem UG.store3 (h : UG B gx gk lv xs lg q w S0 W) (hS : Hid (⟨xs.toArray⟩ = S0)) {k : Nat} {a0 a1 a2 : Value} (hk : Blk W k 37 #[a0, a1, a2]) (hE : w.heap.size ≤ k) (b0 b1 b2 : Value) :
    UG B gx gk lv xs lg q w S0 (((W.setCell ⟨k, 0, none⟩ b0).setCell ⟨k, 1, none⟩ b1).setCell ⟨k, 2, none⟩ b2) := (h.stored hS hk hE b0 b1 b2).1
end
/-- Tell's answer -/
def RtP (B gx gk : Nat) (lv : Value) (xs : List UInt8) (lg : List Acc) (w : World) (r : Bool × Qs) (e : Ending) (w' : World) : Prop :=
  e = .returned (.bool r.1) ∧ Ro B gx gk lv r.2 xs lg w w'
set_option maxRecDepth 100000 in
theorem rtell_broken {B gx gk : Nat} {lv : Value} {xs : List UInt8} {lg : List Acc} {q : Qs} {w : World} (h : Od B gx gk lv xs lg q w) (hb : q.broken = true) :
    Calls Try.prog 17 #[.pointer (some ⟨gx, 0, none⟩)] w (RtP B gx gk lv xs lg w (false, q)) := by
  have hB : w.cell? ⟨gx, 13, none⟩ = some (.bool true) := by rw [← hb]; exact h.blk.cell 13
  have HE := Lib.hid (Ro.refl h)
  clear h hb
  go_enter Try.func17, Try.ntmps17
  go_wp2_with fail
  go_ret
  exact ⟨rfl, HE.out⟩
set_option maxRecDepth 100000 in
set_option maxHeartbeats 12800000 in
theorem rtell_good {B gx gk : Nat} {lv : Value} {xs : List UInt8} {lg : List Acc} {q : Qs} {w : World} (h : Od B gx gk lv xs lg q w) (hq : q.Ok xs.length) (hb : q.broken = false) :
    Calls Try.prog 17 #[.pointer (some ⟨gx, 0, none⟩)] w (RtP B gx gk lv xs lg w (tellB xs q, toldQ q)) := by
  have hB : w.cell? ⟨gx, 13, none⟩ = some (.bool false) := by rw [← hb]; exact h.blk.cell 13
  have hlx := h.mem.len
  have hdr := hq.drv
  have hE := cut_extract xs q.drv 4
  have hE : (⟨xs.toArray⟩ : ByteArray).extract q.drv (q.drv + 4) = cut4 xs q.drv := hE
  have hz := cut4_size xs q.drv hdr
  have e0 : Sp.paE (cut4 xs q.drv) = 0 := by unfold Sp.paE; rw [if_pos hz]
  have HP := fun W => Sp.rparse_any (cut4 xs q.drv) W
  rw [e0] at HP
  unfold Sp.RP at HP
  have hV1 : q.since ≤ q.size → tellB xs q = Sp.needV (Sp.paO (cut4 xs q.drv)) (Sp.paW (cut4 xs q.drv)) (Sp.paF (cut4 xs q.drv)) q.ta q.tw q.ba q.bw q.size := fun x => by unfold tellB; rw [if_neg (by omega)]
  have hV2 : ¬ q.since ≤ q.size → tellB xs q = (Sp.paF (cut4 xs q.drv) == 0 || Sp.paF (cut4 xs q.drv) == 2) := fun x => by unfold tellB; rw [if_pos (by omega)]
  obtain ⟨T, hT⟩ : ∃ T, tellB xs q = T := ⟨_, rfl⟩
  rw [hT] at hV1 hV2 ⊢
  clear hT
  generalize Sp.paO (cut4 xs q.drv) = o at *
  generalize Sp.paW (cut4 xs q.drv) = v at *
  generalize Sp.paF (cut4 xs q.drv) = f at *
  generalize cut4 xs q.drv = S at *
  have HND := fun W => Sp.rneed_any o f (q.ta : Int) (q.ba : Int) (q.size : Int) v q.tw q.bw W
  unfold Sp.RB at HND
  obtain ⟨NV, hNV⟩ : ∃ NV, Sp.needV o v f (q.ta : Int) q.tw (q.ba : Int) q.bw (q.size : Int) = NV := ⟨_, rfl⟩
  rw [hNV] at HND hV1
  have HND := Lib.hid HND
  have HV1 := Lib.hid hV1
  have HV2 := Lib.hid hV2
  have HP := Lib.hid HP
  obtain ⟨S0, hS0⟩ : ∃ S0 : ByteArray, ⟨xs.toArray⟩ = S0 := ⟨_, rfl⟩
  have hs0 : S0.size = xs.length := by rw [← hS0]; show xs.toArray.size = _; simp
  rw [hS0] at hE
  have HS := Lib.hid hS0
  obtain ⟨m, hm0, hm⟩ : ∃ m : Nat, q.drv + 4 = m ∧ (q.drv : Int) + 4 = (m : Int) := ⟨_, rfl, by omega⟩
  rw [hm0] at hE
  have v1 : IntKind.i64.wrap (m : Int) = (m : Int) := by rw [IntKind.wrap_i64]; omega
  have v2 : (q.drv : Int) ≤ (m : Int) := by omega
  have v3 : (m : Int) ≤ (S0.size : Int) := by omega
  have v4 : ¬ (S0.size : Int) < (m : Int) := by omega
  have v5 : m ≤ S0.size := by omega
  have v6 : q.drv ≤ m := by omega
  have F0 := UG.of (Ro.refl h) hS0
  clear h hb hq hS0 hdr hlx hz e0 hV1 hV2 hNV hm0 hs0
  go_enter Try.func17, Try.ntmps17
  go_wp2_with fail
  go_region_held3 (fun W => (W.cell? ⟨gx, 0, none⟩ = some (.pointer (some ⟨gk, 0, none⟩)) ∧ W.cell? ⟨gk, 0, none⟩ = some (.string S0) ∧ W.cell? ⟨gx, 3, none⟩ = some (.int .i64 (q.drv : Int))) ∧ Ro B gx gk lv q xs lg w W)
    ((refine (_root_.id (α := UG B gx gk lv xs lg q w S0 _) ?_); with_reducible (first | exact F0.drew HS | exact (F0.alloc HS _).drew HS | exact UG.next (F0.drew HS) HS hq | exact UG.next ((F0.alloc HS _).drew HS) HS hq | exact UG.alloc (UG.next (F0.drew HS) HS hq) HS _ | exact UG.store3 (UG.next ((F0.alloc HS _).drew HS) HS hq) HS hk1 (Nat.le_refl _) _ _ _)))
    ((go_at_call 51; ((with_reducible refine (HP.out _).mono ?_); rintro e w' ⟨rfl, hq⟩; obtain ⟨hc1, hf1⟩ := bcell hq; have hz1 := hq.size; (try simp at hz1); (try (have hk1 := ((Blk.new w 37 _).drewN).same (hq.block _ (by simp)))))))
  · have G3 := UG.alloc (UG.next (F0.drew HS) HS hq) HS (.cells #[.int .i64 o, .bool v, .int .i64 f] 37)
    have kE := Blk.new w' 37 #[.int .i64 o, .bool v, .int .i64 f]
    obtain ⟨W3, hW3⟩ : ∃ W3, w'.alloc (.cells #[.int .i64 o, .bool v, .int .i64 f] 37) = W3 := ⟨_, rfl⟩
    obtain ⟨E, hE2⟩ : ∃ E, w'.heap.size = E := ⟨_, rfl⟩
    rw [hW3] at G3 kE ⊢
    rw [hE2] at kE ⊢
    clear hW3 hE2 hq hc1 hf1 hz1 F0 hB v1 v2 v3 v4 v5 v6 hm hE
    have R3 := G3.2
    have c0 := kE.cell 0
    have c1 := kE.cell 1
    have c2 := kE.cell 2
    simp only [List.getElem?_toArray, List.getElem?_cons_zero, List.getElem?_cons_succ] at c0 c1 c2
    have ltE := kE.lt
    have R3 := Lib.hid R3
    have KE := Lib.hid kE
    have p11 : W3.cell? ⟨gx, 11, none⟩ = some (.int .i64 (q.since : Int)) := R3.out.blk.cell 11
    have p2 : W3.cell? ⟨gx, 2, none⟩ = some (.int .i64 (q.size : Int)) := R3.out.blk.cell 2
    have ltx := R3.out.blk.lt
    clear G3 kE
    by_cases f0 : f = 0
    · have g1 : (f == 0) = true := by simp [f0]
      have gT : Hid ((f == 0 || f == 2) = true) := by show _ = _; rw [g1]; rfl
      clear f0
      by_cases hs : q.since ≤ q.size
      · have hs1 : (q.since : Int) ≤ (q.size : Int) := by omega
        have HR := Lib.hid (HV1.out hs)
        go_wp2_with fail
        go_quiet (fail)
        have R4 := R3.out.below (below_drewN (Below.refl W3.heap.size W3) nq)
        have k4 := KE.out.same (w' := W3.drewN nq) rfl
        obtain ⟨W4, hW4⟩ : ∃ W4, W3.drewN nq = W4 := ⟨_, rfl⟩
        rw [hW4] at R4 k4 ⊢
        clear hW4 c0 c1 c2 ltE p11 p2 ltx R3 KE
        go_wp2_with fail
        have c0 : W4.drew.cell? ⟨E, 0, none⟩ = some (.int .i64 o) := k4.cell 0
        have c1 : W4.drew.cell? ⟨E, 1, none⟩ = some (.bool v) := k4.cell 1
        have c2 : W4.drew.cell? ⟨E, 2, none⟩ = some (.int .i64 f) := k4.cell 2
        have p9 : W4.drew.cell? ⟨gx, 9, none⟩ = some (.int .i64 (q.ta : Int)) := R4.blk.cell 9
        have p10 : W4.drew.cell? ⟨gx, 10, none⟩ = some (.bool q.tw) := R4.blk.cell 10
        have p7 : W4.drew.cell? ⟨gx, 7, none⟩ = some (.int .i64 (q.ba : Int)) := R4.blk.cell 7
        have p8 : W4.drew.cell? ⟨gx, 8, none⟩ = some (.bool q.bw) := R4.blk.cell 8
        have p2 : W4.drew.cell? ⟨gx, 2, none⟩ = some (.int .i64 (q.size : Int)) := R4.blk.cell 2
        have ltE : E < W4.drew.heap.size := k4.lt
        have ltx : gx < W4.drew.heap.size := R4.blk.lt
        have R4 := Lib.hid R4.below0
        clear k4
        go_still_tail 14, (by kernel_rfl)
        repeat still_step
        change wpList _ _ _ _ _ W4.drew
        generalize W4.drew = W5 at *
        go_wp2_with fail
        refine (HND.out _).mono ?_
        rintro e w6 ⟨rfl, hq⟩
        have R6 := R4.out.below hq
        clear c0 c1 c2 p9 p10 p7 p8 p2 ltE ltx R4 hq
        have p7 : w6.cell? ⟨gx, 7, none⟩ = some (.int .i64 (q.ba : Int)) := R6.blk.cell 7
        have p8 : w6.cell? ⟨gx, 8, none⟩ = some (.bool q.bw) := R6.blk.cell 8
        have p9 : w6.cell? ⟨gx, 9, none⟩ = some (.int .i64 (q.ta : Int)) := R6.blk.cell 9
        have p10 : w6.cell? ⟨gx, 10, none⟩ = some (.bool q.tw) := R6.blk.cell 10
        have p11 : w6.cell? ⟨gx, 11, none⟩ = some (.int .i64 (q.since : Int)) := R6.blk.cell 11
        have z9 := R6.blk.frozen 9
        have z10 := R6.blk.frozen 10
        have z11 := R6.blk.frozen 11
        have ltx := R6.blk.lt
        have Q2 := Lib.hid (((R6.set 9 (.int .i64 (q.ba : Int)) (q2 := { q with ta := q.ba }) rfl).set 10 (.bool q.bw) (q2 := { q with ta := q.ba, tw := q.bw }) rfl).set 11 (.int .i64 0) (q2 := toldQ q) rfl)
        clear R6
        go_wp2_with fail
        go_ret
        exact ⟨by rw [HR.out]; rfl, Q2.out⟩

      · have hs1 : ¬ (q.since : Int) ≤ (q.size : Int) := by omega
        have HR := Lib.hid (HV2.out hs)
        rw [gT.out] at HR
        go_wp2_with fail
        go_quiet (fail)
        have R6 := R3.out.below (below_drewN (Below.refl W3.heap.size W3) nq)
        obtain ⟨w6, hw6⟩ : ∃ W4, W3.drewN nq = W4 := ⟨_, rfl⟩
        rw [hw6] at R6 ⊢
        clear hw6 c0 c1 c2 ltE p11 p2 ltx R3 KE
        have p7 : w6.cell? ⟨gx, 7, none⟩ = some (.int .i64 (q.ba : Int)) := R6.blk.cell 7
        have p8 : w6.cell? ⟨gx, 8, none⟩ = some (.bool q.bw) := R6.blk.cell 8
        have p9 : w6.cell? ⟨gx, 9, none⟩ = some (.int .i64 (q.ta : Int)) := R6.blk.cell 9
        have p10 : w6.cell? ⟨gx, 10, none⟩ = some (.bool q.tw) := R6.blk.cell 10
        have p11 : w6.cell? ⟨gx, 11, none⟩ = some (.int .i64 (q.since : Int)) := R6.blk.cell 11
        have z9 := R6.blk.frozen 9
        have z10 := R6.blk.frozen 10
        have z11 := R6.blk.frozen 11
        have ltx := R6.blk.lt
        have Q2 := Lib.hid (((R6.set 9 (.int .i64 (q.ba : Int)) (q2 := { q with ta := q.ba }) rfl).set 10 (.bool q.bw) (q2 := { q with ta := q.ba, tw := q.bw }) rfl).set 11 (.int .i64 0) (q2 := toldQ q) rfl)
        clear R6
        go_wp2_with fail
        go_ret
        exact ⟨by rw [HR.out]; rfl, Q2.out⟩

    · have g1 : (f == 0) = false := by simp [f0]
      by_cases f2 : f = 2
      · have g2 : (f == 2) = true := by simp [f2]
        have gT : Hid ((f == 0 || f == 2) = true) := by show _ = _; rw [g1, g2]; rfl
        clear f0 f2
        by_cases hs : q.since ≤ q.size
        · have hs1 : (q.since : Int) ≤ (q.size : Int) := by omega
          have HR := Lib.hid (HV1.out hs)
          go_wp2_with fail
          go_quiet (fail)
          have R4 := R3.out.below (below_drewN (Below.refl W3.heap.size W3) nq)
          have k4 := KE.out.same (w' := W3.drewN nq) rfl
          obtain ⟨W4, hW4⟩ : ∃ W4, W3.drewN nq = W4 := ⟨_, rfl⟩
          rw [hW4] at R4 k4 ⊢
          clear hW4 c0 c1 c2 ltE p11 p2 ltx R3 KE
          go_wp2_with fail
          have c0 : W4.drew.cell? ⟨E, 0, none⟩ = some (.int .i64 o) := k4.cell 0
          have c1 : W4.drew.cell? ⟨E, 1, none⟩ = some (.bool v) := k4.cell 1
          have c2 : W4.drew.cell? ⟨E, 2, none⟩ = some (.int .i64 f) := k4.cell 2
          have p9 : W4.drew.cell? ⟨gx, 9, none⟩ = some (.int .i64 (q.ta : Int)) := R4.blk.cell 9
          have p10 : W4.drew.cell? ⟨gx, 10, none⟩ = some (.bool q.tw) := R4.blk.cell 10
          have p7 : W4.drew.cell? ⟨gx, 7, none⟩ = some (.int .i64 (q.ba : Int)) := R4.blk.cell 7
          have p8 : W4.drew.cell? ⟨gx, 8, none⟩ = some (.bool q.bw) := R4.blk.cell 8
          have p2 : W4.drew.cell? ⟨gx, 2, none⟩ = some (.int .i64 (q.size : Int)) := R4.blk.cell 2
          have ltE : E < W4.drew.heap.size := k4.lt
          have ltx : gx < W4.drew.heap.size := R4.blk.lt
          have R4 := Lib.hid R4.below0
          clear k4
          go_still_tail 14, (by kernel_rfl)
          repeat still_step
          change wpList _ _ _ _ _ W4.drew
          generalize W4.drew = W5 at *
          go_wp2_with fail
          refine (HND.out _).mono ?_
          rintro e w6 ⟨rfl, hq⟩
          have R6 := R4.out.below hq
          clear c0 c1 c2 p9 p10 p7 p8 p2 ltE ltx R4 hq
          have p7 : w6.cell? ⟨gx, 7, none⟩ = some (.int .i64 (q.ba : Int)) := R6.blk.cell 7
          have p8 : w6.cell? ⟨gx, 8, none⟩ = some (.bool q.bw) := R6.blk.cell 8
          have p9 : w6.cell? ⟨gx, 9, none⟩ = some (.int .i64 (q.ta : Int)) := R6.blk.cell 9
          have p10 : w6.cell? ⟨gx, 10, none⟩ = some (.bool q.tw) := R6.blk.cell 10
          have p11 : w6.cell? ⟨gx, 11, none⟩ = some (.int .i64 (q.since : Int)) := R6.blk.cell 11
          have z9 := R6.blk.frozen 9
          have z10 := R6.blk.frozen 10
          have z11 := R6.blk.frozen 11
          have ltx := R6.blk.lt
          have Q2 := Lib.hid (((R6.set 9 (.int .i64 (q.ba : Int)) (q2 := { q with ta := q.ba }) rfl).set 10 (.bool q.bw) (q2 := { q with ta := q.ba, tw := q.bw }) rfl).set 11 (.int .i64 0) (q2 := toldQ q) rfl)
          clear R6
          go_wp2_with fail
          go_ret
          exact ⟨by rw [HR.out]; rfl, Q2.out⟩

        · have hs1 : ¬ (q.since : Int) ≤ (q.size : Int) := by omega
          have HR := Lib.hid (HV2.out hs)
          rw [gT.out] at HR
          go_wp2_with fail
          go_quiet (fail)
          have R6 := R3.out.below (below_drewN (Below.refl W3.heap.size W3) nq)
          obtain ⟨w6, hw6⟩ : ∃ W4, W3.drewN nq = W4 := ⟨_, rfl⟩
          rw [hw6] at R6 ⊢
          clear hw6 c0 c1 c2 ltE p11 p2 ltx R3 KE
          have p7 : w6.cell? ⟨gx, 7, none⟩ = some (.int .i64 (q.ba : Int)) := R6.blk.cell 7
          have p8 : w6.cell? ⟨gx, 8, none⟩ = some (.bool q.bw) := R6.blk.cell 8
          have p9 : w6.cell? ⟨gx, 9, none⟩ = some (.int .i64 (q.ta : Int)) := R6.blk.cell 9
          have p10 : w6.cell? ⟨gx, 10, none⟩ = some (.bool q.tw) := R6.blk.cell 10
          have p11 : w6.cell? ⟨gx, 11, none⟩ = some (.int .i64 (q.since : Int)) := R6.blk.cell 11
          have z9 := R6.blk.frozen 9
          have z10 := R6.blk.frozen 10
          have z11 := R6.blk.frozen 11
          have ltx := R6.blk.lt
          have Q2 := Lib.hid (((R6.set 9 (.int .i64 (q.ba : Int)) (q2 := { q with ta := q.ba }) rfl).set 10 (.bool q.bw) (q2 := { q with ta := q.ba, tw := q.bw }) rfl).set 11 (.int .i64 0) (q2 := toldQ q) rfl)
          clear R6
          go_wp2_with fail
          go_ret
          exact ⟨by rw [HR.out]; rfl, Q2.out⟩

      · have g2 : (f == 2) = false := by simp [f2]
        have gT : Hid ((f == 0 || f == 2) = false) := by show _ = _; rw [g1, g2]; rfl
        clear f0 f2
        by_cases hs : q.since ≤ q.size
        · have hs1 : (q.since : Int) ≤ (q.size : Int) := by omega
          have HR := Lib.hid (HV1.out hs)
          go_wp2_with fail
          go_quiet (fail)
          have R4 := R3.out.below (below_drewN (Below.refl W3.heap.size W3) nq)
          have k4 := KE.out.same (w' := W3.drewN nq) rfl
          obtain ⟨W4, hW4⟩ : ∃ W4, W3.drewN nq = W4 := ⟨_, rfl⟩
          rw [hW4] at R4 k4 ⊢
          clear hW4 c0 c1 c2 ltE p11 p2 ltx R3 KE
          go_wp2_with fail
          have c0 : W4.drew.cell? ⟨E, 0, none⟩ = some (.int .i64 o) := k4.cell 0
          have c1 : W4.drew.cell? ⟨E, 1, none⟩ = some (.bool v) := k4.cell 1
          have c2 : W4.drew.cell? ⟨E, 2, none⟩ = some (.int .i64 f) := k4.cell 2
          have p9 : W4.drew.cell? ⟨gx, 9, none⟩ = some (.int .i64 (q.ta : Int)) := R4.blk.cell 9
          have p10 : W4.drew.cell? ⟨gx, 10, none⟩ = some (.bool q.tw) := R4.blk.cell 10
          have p7 : W4.drew.cell? ⟨gx, 7, none⟩ = some (.int .i64 (q.ba : Int)) := R4.blk.cell 7
          have p8 : W4.drew.cell? ⟨gx, 8, none⟩ = some (.bool q.bw) := R4.blk.cell 8
          have p2 : W4.drew.cell? ⟨gx, 2, none⟩ = some (.int .i64 (q.size : Int)) := R4.blk.cell 2
          have ltE : E < W4.drew.heap.size := k4.lt
          have ltx : gx < W4.drew.heap.size := R4.blk.lt
          have R4 := Lib.hid R4.below0
          clear k4
          go_still_tail 14, (by kernel_rfl)
          repeat still_step
          change wpList _ _ _ _ _ W4.drew
          generalize W4.drew = W5 at *
          go_wp2_with fail
          refine (HND.out _).mono ?_
          rintro e w6 ⟨rfl, hq⟩
          have R6 := R4.out.below hq
          clear c0 c1 c2 p9 p10 p7 p8 p2 ltE ltx R4 hq
          have p7 : w6.cell? ⟨gx, 7, none⟩ = some (.int .i64 (q.ba : Int)) := R6.blk.cell 7
          have p8 : w6.cell? ⟨gx, 8, none⟩ = some (.bool q.bw) := R6.blk.cell 8
          have p9 : w6.cell? ⟨gx, 9, none⟩ = some (.int .i64 (q.ta : Int)) := R6.blk.cell 9
          have p10 : w6.cell? ⟨gx, 10, none⟩ = some (.bool q.tw) := R6.blk.cell 10
          have p11 : w6.cell? ⟨gx, 11, none⟩ = some (.int .i64 (q.since : Int)) := R6.blk.cell 11
          have z9 := R6.blk.frozen 9
          have z10 := R6.blk.frozen 10
          have z11 := R6.blk.frozen 11
          have ltx := R6.blk.lt
          have Q2 := Lib.hid (((R6.set 9 (.int .i64 (q.ba : Int)) (q2 := { q with ta := q.ba }) rfl).set 10 (.bool q.bw) (q2 := { q with ta := q.ba, tw := q.bw }) rfl).set 11 (.int .i64 0) (q2 := toldQ q) rfl)
          clear R6
          go_wp2_with fail
          go_ret
          exact ⟨by rw [HR.out]; rfl, Q2.out⟩

        · have hs1 : ¬ (q.since : Int) ≤ (q.size : Int) := by omega
          have HR := Lib.hid (HV2.out hs)
          rw [gT.out] at HR
          go_wp2_with fail
          go_quiet (fail)
          have R6 := R3.out.below (below_drewN (Below.refl W3.heap.size W3) nq)
          obtain ⟨w6, hw6⟩ : ∃ W4, W3.drewN nq = W4 := ⟨_, rfl⟩
          rw [hw6] at R6 ⊢
          clear hw6 c0 c1 c2 ltE p11 p2 ltx R3 KE
          have p7 : w6.cell? ⟨gx, 7, none⟩ = some (.int .i64 (q.ba : Int)) := R6.blk.cell 7
          have p8 : w6.cell? ⟨gx, 8, none⟩ = some (.bool q.bw) := R6.blk.cell 8
          have p9 : w6.cell? ⟨gx, 9, none⟩ = some (.int .i64 (q.ta : Int)) := R6.blk.cell 9
          have p10 : w6.cell? ⟨gx, 10, none⟩ = some (.bool q.tw) := R6.blk.cell 10
          have p11 : w6.cell? ⟨gx, 11, none⟩ = some (.int .i64 (q.since : Int)) := R6.blk.cell 11
          have z9 := R6.blk.frozen 9
          have z10 := R6.blk.frozen 10
          have z11 := R6.blk.frozen 11
          have ltx := R6.blk.lt
          have Q2 := Lib.hid (((R6.set 9 (.int .i64 (q.ba : Int)) (q2 := { q with ta := q.ba }) rfl).set 10 (.bool q.bw) (q2 := { q with ta := q.ba, tw := q.bw }) rfl).set 11 (.int .i64 0) (q2 := toldQ q) rfl)
          clear R6
          go_wp2_with fail
          go_ret
          exact ⟨by rw [HR.out]; rfl, Q2.out⟩
  · obtain ⟨G3, kE⟩ := UG.stored (UG.next ((F0.alloc HS _).drew HS) HS hq) HS hk1 (Nat.le_refl _) (.int .i64 o) (.bool v) (.int .i64 f)
    obtain ⟨W3, hW3⟩ : ∃ W3, (((w'.setCell ⟨w.heap.size, 0, none⟩ (.int .i64 o)).setCell ⟨w.heap.size, 1, none⟩ (.bool v)).setCell ⟨w.heap.size, 2, none⟩ (.int .i64 f)) = W3 := ⟨_, rfl⟩
    rw [hW3] at G3 kE ⊢
    obtain ⟨E, hE2⟩ : ∃ E, w.heap.size = E := ⟨_, rfl⟩
    rw [hE2] at kE ⊢
    clear hW3 hE2 hq hc1 hf1 hz1 F0 hB v1 v2 v3 v4 v5 v6 hm hE hk1
    have R3 := G3.2
    have c0 := kE.cell 0
    have c1 := kE.cell 1
    have c2 := kE.cell 2
    simp only [List.getElem?_toArray, List.getElem?_cons_zero, List.getElem?_cons_succ] at c0 c1 c2
    have ltE := kE.lt
    have R3 := Lib.hid R3
    have KE := Lib.hid kE
    have p11 : W3.cell? ⟨gx, 11, none⟩ = some (.int .i64 (q.since : Int)) := R3.out.blk.cell 11
    have p2 : W3.cell? ⟨gx, 2, none⟩ = some (.int .i64 (q.size : Int)) := R3.out.blk.cell 2
    have ltx := R3.out.blk.lt
    clear G3 kE
    by_cases f0 : f = 0
    · have g1 : (f == 0) = true := by simp [f0]
      have gT : Hid ((f == 0 || f == 2) = true) := by show _ = _; rw [g1]; rfl
      clear f0
      by_cases hs : q.since ≤ q.size
      · have hs1 : (q.since : Int) ≤ (q.size : Int) := by omega
        have HR := Lib.hid (HV1.out hs)
        go_wp2_with fail
        go_quiet (fail)
        have R4 := R3.out.below (below_drewN (Below.refl W3.heap.size W3) nq)
        have k4 := KE.out.same (w' := W3.drewN nq) rfl
        obtain ⟨W4, hW4⟩ : ∃ W4, W3.drewN nq = W4 := ⟨_, rfl⟩
        rw [hW4] at R4 k4 ⊢
        clear hW4 c0 c1 c2 ltE p11 p2 ltx R3 KE
        go_wp2_with fail
        have c0 : W4.drew.cell? ⟨E, 0, none⟩ = some (.int .i64 o) := k4.cell 0
        have c1 : W4.drew.cell? ⟨E, 1, none⟩ = some (.bool v) := k4.cell 1
        have c2 : W4.drew.cell? ⟨E, 2, none⟩ = some (.int .i64 f) := k4.cell 2
        have p9 : W4.drew.cell? ⟨gx, 9, none⟩ = some (.int .i64 (q.ta : Int)) := R4.blk.cell 9
        have p10 : W4.drew.cell? ⟨gx, 10, none⟩ = some (.bool q.tw) := R4.blk.cell 10
        have p7 : W4.drew.cell? ⟨gx, 7, none⟩ = some (.int .i64 (q.ba : Int)) := R4.blk.cell 7
        have p8 : W4.drew.cell? ⟨gx, 8, none⟩ = some (.bool q.bw) := R4.blk.cell 8
        have p2 : W4.drew.cell? ⟨gx, 2, none⟩ = some (.int .i64 (q.size : Int)) := R4.blk.cell 2
        have ltE : E < W4.drew.heap.size := k4.lt
        have ltx : gx < W4.drew.heap.size := R4.blk.lt
        have R4 := Lib.hid R4.below0
        clear k4
        go_still_tail 14, (by kernel_rfl)
        repeat still_step
        change wpList _ _ _ _ _ W4.drew
        generalize W4.drew = W5 at *
        go_wp2_with fail
        refine (HND.out _).mono ?_
        rintro e w6 ⟨rfl, hq⟩
        have R6 := R4.out.below hq
        clear c0 c1 c2 p9 p10 p7 p8 p2 ltE ltx R4 hq
        have p7 : w6.cell? ⟨gx, 7, none⟩ = some (.int .i64 (q.ba : Int)) := R6.blk.cell 7
        have p8 : w6.cell? ⟨gx, 8, none⟩ = some (.bool q.bw) := R6.blk.cell 8
        have p9 : w6.cell? ⟨gx, 9, none⟩ = some (.int .i64 (q.ta : Int)) := R6.blk.cell 9
        have p10 : w6.cell? ⟨gx, 10, none⟩ = some (.bool q.tw) := R6.blk.cell 10
        have p11 : w6.cell? ⟨gx, 11, none⟩ = some (.int .i64 (q.since : Int)) := R6.blk.cell 11
        have z9 := R6.blk.frozen 9
        have z10 := R6.blk.frozen 10
        have z11 := R6.blk.frozen 11
        have ltx := R6.blk.lt
        have Q2 := Lib.hid (((R6.set 9 (.int .i64 (q.ba : Int)) (q2 := { q with ta := q.ba }) rfl).set 10 (.bool q.bw) (q2 := { q with ta := q.ba, tw := q.bw }) rfl).set 11 (.int .i64 0) (q2 := toldQ q) rfl)
        clear R6
        go_wp2_with fail
        go_ret
        exact ⟨by rw [HR.out]; rfl, Q2.out⟩

      · have hs1 : ¬ (q.since : Int) ≤ (q.size : Int) := by omega
        have HR := Lib.hid (HV2.out hs)
        rw [gT.out] at HR
        go_wp2_with fail
        go_quiet (fail)
        have R6 := R3.out.below (below_drewN (Below.refl W3.heap.size W3) nq)
        obtain ⟨w6, hw6⟩ : ∃ W4, W3.drewN nq = W4 := ⟨_, rfl⟩
        rw [hw6] at R6 ⊢
        clear hw6 c0 c1 c2 ltE p11 p2 ltx R3 KE
        have p7 : w6.cell? ⟨gx, 7, none⟩ = some (.int .i64 (q.ba : Int)) := R6.blk.cell 7
        have p8 : w6.cell? ⟨gx, 8, none⟩ = some (.bool q.bw) := R6.blk.cell 8
        have p9 : w6.cell? ⟨gx, 9, none⟩ = some (.int .i64 (q.ta : Int)) := R6.blk.cell 9
        have p10 : w6.cell? ⟨gx, 10, none⟩ = some (.bool q.tw) := R6.blk.cell 10
        have p11 : w6.cell? ⟨gx, 11, none⟩ = some (.int .i64 (q.since : Int)) := R6.blk.cell 11
        have z9 := R6.blk.frozen 9
        have z10 := R6.blk.frozen 10
        have z11 := R6.blk.frozen 11
        have ltx := R6.blk.lt
        have Q2 := Lib.hid (((R6.set 9 (.int .i64 (q.ba : Int)) (q2 := { q with ta := q.ba }) rfl).set 10 (.bool q.bw) (q2 := { q with ta := q.ba, tw := q.bw }) rfl).set 11 (.int .i64 0) (q2 := toldQ q) rfl)
        clear R6
        go_wp2_with fail
        go_ret
        exact ⟨by rw [HR.out]; rfl, Q2.out⟩

    · have g1 : (f == 0) = false := by simp [f0]
      by_cases f2 : f = 2
      · have g2 : (f == 2) = true := by simp [f2]
        have gT : Hid ((f == 0 || f == 2) = true) := by show _ = _; rw [g1, g2]; rfl
        clear f0 f2
        by_cases hs : q.since ≤ q.size
        · have hs1 : (q.since : Int) ≤ (q.size : Int) := by omega
          have HR := Lib.hid (HV1.out hs)
          go_wp2_with fail
          go_quiet (fail)
          have R4 := R3.out.below (below_drewN (Below.refl W3.heap.size W3) nq)
          have k4 := KE.out.same (w' := W3.drewN nq) rfl
          obtain ⟨W4, hW4⟩ : ∃ W4, W3.drewN nq = W4 := ⟨_, rfl⟩
          rw [hW4] at R4 k4 ⊢
          clear hW4 c0 c1 c2 ltE p11 p2 ltx R3 KE
          go_wp2_with fail
          have c0 : W4.drew.cell? ⟨E, 0, none⟩ = some (.int .i64 o) := k4.cell 0
          have c1 : W4.drew.cell? ⟨E, 1, none⟩ = some (.bool v) := k4.cell 1
          have c2 : W4.drew.cell? ⟨E, 2, none⟩ = some (.int .i64 f) := k4.cell 2
          have p9 : W4.drew.cell? ⟨gx, 9, none⟩ = some (.int .i64 (q.ta : Int)) := R4.blk.cell 9
          have p10 : W4.drew.cell? ⟨gx, 10, none⟩ = some (.bool q.tw) := R4.blk.cell 10
          have p7 : W4.drew.cell? ⟨gx, 7, none⟩ = some (.int .i64 (q.ba : Int)) := R4.blk.cell 7
          have p8 : W4.drew.cell? ⟨gx, 8, none⟩ = some (.bool q.bw) := R4.blk.cell 8
          have p2 : W4.drew.cell? ⟨gx, 2, none⟩ = some (.int .i64 (q.size : Int)) := R4.blk.cell 2
          have ltE : E < W4.drew.heap.size := k4.lt
          have ltx : gx < W4.drew.heap.size := R4.blk.lt
          have R4 := Lib.hid R4.below0
          clear k4
          go_still_tail 14, (by kernel_rfl)
          repeat still_step
          change wpList _ _ _ _ _ W4.drew
          generalize W4.drew = W5 at *
          go_wp2_with fail
          refine (HND.out _).mono ?_
          rintro e w6 ⟨rfl, hq⟩
          have R6 := R4.out.below hq
          clear c0 c1 c2 p9 p10 p7 p8 p2 ltE ltx R4 hq
          have p7 : w6.cell? ⟨gx, 7, none⟩ = some (.int .i64 (q.ba : Int)) := R6.blk.cell 7
          have p8 : w6.cell? ⟨gx, 8, none⟩ = some (.bool q.bw) := R6.blk.cell 8
          have p9 : w6.cell? ⟨gx, 9, none⟩ = some (.int .i64 (q.ta : Int)) := R6.blk.cell 9
          have p10 : w6.cell? ⟨gx, 10, none⟩ = some (.bool q.tw) := R6.blk.cell 10
          have p11 : w6.cell? ⟨gx, 11, none⟩ = some (.int .i64 (q.since : Int)) := R6.blk.cell 11
          have z9 := R6.blk.frozen 9
          have z10 := R6.blk.frozen 10
          have z11 := R6.blk.frozen 11
          have ltx := R6.blk.lt
          have Q2 := Lib.hid (((R6.set 9 (.int .i64 (q.ba : Int)) (q2 := { q with ta := q.ba }) rfl).set 10 (.bool q.bw) (q2 := { q with ta := q.ba, tw := q.bw }) rfl).set 11 (.int .i64 0) (q2 := toldQ q) rfl)
          clear R6
          go_wp2_with fail
          go_ret
          exact ⟨by rw [HR.out]; rfl, Q2.out⟩

        · have hs1 : ¬ (q.since : Int) ≤ (q.size : Int) := by omega
          have HR := Lib.hid (HV2.out hs)
          rw [gT.out] at HR
          go_wp2_with fail
          go_quiet (fail)
          have R6 := R3.out.below (below_drewN (Below.refl W3.heap.size W3) nq)
          obtain ⟨w6, hw6⟩ : ∃ W4, W3.drewN nq = W4 := ⟨_, rfl⟩
          rw [hw6] at R6 ⊢
          clear hw6 c0 c1 c2 ltE p11 p2 ltx R3 KE
          have p7 : w6.cell? ⟨gx, 7, none⟩ = some (.int .i64 (q.ba : Int)) := R6.blk.cell 7
          have p8 : w6.cell? ⟨gx, 8, none⟩ = some (.bool q.bw) := R6.blk.cell 8
          have p9 : w6.cell? ⟨gx, 9, none⟩ = some (.int .i64 (q.ta : Int)) := R6.blk.cell 9
          have p10 : w6.cell? ⟨gx, 10, none⟩ = some (.bool q.tw) := R6.blk.cell 10
          have p11 : w6.cell? ⟨gx, 11, none⟩ = some (.int .i64 (q.since : Int)) := R6.blk.cell 11
          have z9 := R6.blk.frozen 9
          have z10 := R6.blk.frozen 10
          have z11 := R6.blk.frozen 11
          have ltx := R6.blk.lt
          have Q2 := Lib.hid (((R6.set 9 (.int .i64 (q.ba : Int)) (q2 := { q with ta := q.ba }) rfl).set 10 (.bool q.bw) (q2 := { q with ta := q.ba, tw := q.bw }) rfl).set 11 (.int .i64 0) (q2 := toldQ q) rfl)
          clear R6
          go_wp2_with fail
          go_ret
          exact ⟨by rw [HR.out]; rfl, Q2.out⟩

      · have g2 : (f == 2) = false := by simp [f2]
        have gT : Hid ((f == 0 || f == 2) = false) := by show _ = _; rw [g1, g2]; rfl
        clear f0 f2
        by_cases hs : q.since ≤ q.size
        · have hs1 : (q.since : Int) ≤ (q.size : Int) := by omega
          have HR := Lib.hid (HV1.out hs)
          go_wp2_with fail
          go_quiet (fail)
          have R4 := R3.out.below (below_drewN (Below.refl W3.heap.size W3) nq)
          have k4 := KE.out.same (w' := W3.drewN nq) rfl
          obtain ⟨W4, hW4⟩ : ∃ W4, W3.drewN nq = W4 := ⟨_, rfl⟩
          rw [hW4] at R4 k4 ⊢
          clear hW4 c0 c1 c2 ltE p11 p2 ltx R3 KE
          go_wp2_with fail
          have c0 : W4.drew.cell? ⟨E, 0, none⟩ = some (.int .i64 o) := k4.cell 0
          have c1 : W4.drew.cell? ⟨E, 1, none⟩ = some (.bool v) := k4.cell 1
          have c2 : W4.drew.cell? ⟨E, 2, none⟩ = some (.int .i64 f) := k4.cell 2
          have p9 : W4.drew.cell? ⟨gx, 9, none⟩ = some (.int .i64 (q.ta : Int)) := R4.blk.cell 9
          have p10 : W4.drew.cell? ⟨gx, 10, none⟩ = some (.bool q.tw) := R4.blk.cell 10
          have p7 : W4.drew.cell? ⟨gx, 7, none⟩ = some (.int .i64 (q.ba : Int)) := R4.blk.cell 7
          have p8 : W4.drew.cell? ⟨gx, 8, none⟩ = some (.bool q.bw) := R4.blk.cell 8
          have p2 : W4.drew.cell? ⟨gx, 2, none⟩ = some (.int .i64 (q.size : Int)) := R4.blk.cell 2
          have ltE : E < W4.drew.heap.size := k4.lt
          have ltx : gx < W4.drew.heap.size := R4.blk.lt
          have R4 := Lib.hid R4.below0
          clear k4
          go_still_tail 14, (by kernel_rfl)
          repeat still_step
          change wpList _ _ _ _ _ W4.drew
          generalize W4.drew = W5 at *
          go_wp2_with fail
          refine (HND.out _).mono ?_
          rintro e w6 ⟨rfl, hq⟩
          have R6 := R4.out.below hq
          clear c0 c1 c2 p9 p10 p7 p8 p2 ltE ltx R4 hq
          have p7 : w6.cell? ⟨gx, 7, none⟩ = some (.int .i64 (q.ba : Int)) := R6.blk.cell 7
          have p8 : w6.cell? ⟨gx, 8, none⟩ = some (.bool q.bw) := R6.blk.cell 8
          have p9 : w6.cell? ⟨gx, 9, none⟩ = some (.int .i64 (q.ta : Int)) := R6.blk.cell 9
          have p10 : w6.cell? ⟨gx, 10, none⟩ = some (.bool q.tw) := R6.blk.cell 10
          have p11 : w6.cell? ⟨gx, 11, none⟩ = some (.int .i64 (q.since : Int)) := R6.blk.cell 11
          have z9 := R6.blk.frozen 9
          have z10 := R6.blk.frozen 10
          have z11 := R6.blk.frozen 11
          have ltx := R6.blk.lt
          have Q2 := Lib.hid (((R6.set 9 (.int .i64 (q.ba : Int)) (q2 := { q with ta := q.ba }) rfl).set 10 (.bool q.bw) (q2 := { q with ta := q.ba, tw := q.bw }) rfl).set 11 (.int .i64 0) (q2 := toldQ q) rfl)
          clear R6
          go_wp2_with fail
          go_ret
          exact ⟨by rw [HR.out]; rfl, Q2.out⟩

        · have hs1 : ¬ (q.since : Int) ≤ (q.size : Int) := by omega
          have HR := Lib.hid (HV2.out hs)
          rw [gT.out] at HR
          go_wp2_with fail
          go_quiet (fail)
          have R6 := R3.out.below (below_drewN (Below.refl W3.heap.size W3) nq)
          obtain ⟨w6, hw6⟩ : ∃ W4, W3.drewN nq = W4 := ⟨_, rfl⟩
          rw [hw6] at R6 ⊢
          clear hw6 c0 c1 c2 ltE p11 p2 ltx R3 KE
          have p7 : w6.cell? ⟨gx, 7, none⟩ = some (.int .i64 (q.ba : Int)) := R6.blk.cell 7
          have p8 : w6.cell? ⟨gx, 8, none⟩ = some (.bool q.bw) := R6.blk.cell 8
          have p9 : w6.cell? ⟨gx, 9, none⟩ = some (.int .i64 (q.ta : Int)) := R6.blk.cell 9
          have p10 : w6.cell? ⟨gx, 10, none⟩ = some (.bool q.tw) := R6.blk.cell 10
          have p11 : w6.cell? ⟨gx, 11, none⟩ = some (.int .i64 (q.since : Int)) := R6.blk.cell 11
          have z9 := R6.blk.frozen 9
          have z10 := R6.blk.frozen 10
          have z11 := R6.blk.frozen 11
          have ltx := R6.blk.lt
          have Q2 := Lib.hid (((R6.set 9 (.int .i64 (q.ba : Int)) (q2 := { q with ta := q.ba }) rfl).set 10 (.bool q.bw) (q2 := { q with ta := q.ba, tw := q.bw }) rfl).set 11 (.int .i64 0) (q2 := toldQ q) rfl)
          clear R6
          go_wp2_with fail
          go_ret
          exact ⟨by rw [HR.out]; rfl, Q2.out⟩
theorem rtell_any {B gx gk : Nat} {lv : Value} {xs : List UInt8} {lg : List Acc} {q : Qs} {w : World} (h : Od B gx gk lv xs lg q w) (hq : q.Ok xs.length) :
    Calls Try.prog 17 #[.pointer (some ⟨gx, 0, none⟩)] w (RtP B gx gk lv xs lg w (tellC xs q)) := by
  unfold tellC
  cases hb : q.broken
  · rw [if_neg (by simp)]; exact rtell_good h hq hb
  · rw [if_pos rfl]; exact rtell_broken h hb
/-- Ask's answer -/
def RaP (B gx gk : Nat) (lv : Value) (lg : List Acc) (q : Qs) (w : World) (E : Int) (ys : List UInt8) (e : Ending) (w' : World) : Prop :=
  e = .returned (.int .i64 E) ∧ ∃ lg', lg'.length ≤ lg.length + 1 ∧ Ro B gx gk lv q ys lg' w w'
set_option maxRecDepth 100000 in
set_option maxHeartbeats 1600000 in
theorem rask_broken {B gx gk : Nat} {lv : Value} {xs : List UInt8} {lg : List Acc} {q : Qs} {w : World} (h : Od B gx gk lv xs lg q w) (hb : q.broken = true) (o f : Int) (v : Bool) :
    Calls Try.prog 19 #[.pointer (some ⟨gx, 0, none⟩), .agg #[.int .i64 o, .bool v, .int .i64 f]] w (RaP B gx gk lv lg q w 141 xs) := by
  have hB : w.cell? ⟨gx, 13, none⟩ = some (.bool true) := by rw [← hb]; exact h.blk.cell 13
  have HE := Lib.hid ((Ro.refl h).below (ba (Below.refl w.heap.size w) (.cells #[.int .i64 o, .bool v, .int .i64 f] 37)))
  have hlt := h.blk.lt
  have hne := Nat.ne_of_lt hlt
  clear h hb
  go_enter Try.func19, Try.ntmps19
  go_wp2_with fail
  go_ret
  exact ⟨rfl, lg, Nat.le_succ _, HE.out⟩
set_option maxRecDepth 100000 in
set_option maxHeartbeats 3200000 in
theorem rask_good {B gx gk : Nat} {lv : Value} {xs : List UInt8} {lg : List Acc} {q : Qs} {w : World} (h : Od B gx gk lv xs lg q w) (hlg : lg.length ≤ 4000) (hq : q.Ok xs.length) (hb : q.broken = false) (o f : Int) (v : Bool) :
    Calls Try.prog 19 #[.pointer (some ⟨gx, 0, none⟩), .agg #[.int .i64 o, .bool v, .int .i64 f]] w (RaP B gx gk lv lg q w (Sp.buE o f) (if Sp.buE o f = 0 then over xs q.dev (Sp.buS o v f) else xs)) := by
  have hB : w.cell? ⟨gx, 13, none⟩ = some (.bool false) := by rw [← hb]; exact h.blk.cell 13
  have HE := Lib.hid ((Ro.refl h).below (ba (Below.refl w.heap.size w) (.cells #[.int .i64 o, .bool v, .int .i64 f] 37)))
  have kE := Lib.hid (Blk.new w 37 #[.int .i64 o, .bool v, .int .i64 f])
  have hlt := h.blk.lt
  have hne := Nat.ne_of_lt hlt
  have hdv := hq.dev
  have hsz := Sp.buS_size o v f
  have HB := fun W => Sp.rbuild_any o f v W
  unfold Sp.RS at HB
  generalize Sp.buS o v f = S at *
  obtain ⟨E, hE⟩ : ∃ E, Sp.buE o f = E := ⟨_, rfl⟩
  rw [hE] at HB ⊢
  have HB := Lib.hid HB
  have hin : (0 : Int) ≤ (q.dev : Int) ∧ (q.dev : Int) + (S.size : Int) ≤ (xs.length : Int) := by omega
  have HWr := fun lv1 W (hM : Mr B gk lv1 xs lg W) => rwrite_any hM hlg (q.dev : Int) S
  unfold RwP wrE wrX at HWr
  rw [if_pos hin, if_pos hin, Int.toNat_natCast] at HWr
  have HWr := Lib.hid HWr
  clear h hb hq hdv hsz hin hE hlg
  by_cases e0 : E = 0
  · have e1 : (E != 0) = false := by simp [e0]
    rw [if_pos e0]
    have HE0 := Lib.hid e0
    clear e0
    go_enter Try.func19, Try.ntmps19
    go_wp2_with fail
    refine (HB.out _).mono ?_
    rintro e w2 ⟨rfl, hq⟩
    have R2 := HE.out.below hq
    clear hB hlt hne hq
    go_wp2_with fail
    have p0 : w2.drew.cell? ⟨gx, 0, none⟩ = some (.pointer (some ⟨gk, 0, none⟩)) := R2.blk.cell 0
    have p4 : w2.drew.cell? ⟨gx, 4, none⟩ = some (.int .i64 (q.dev : Int)) := R2.blk.cell 4
    have ltx : gx < w2.drew.heap.size := R2.blk.lt
    have R3 := Lib.hid R2.below0
    clear R2
    go_still_tail 10, (by kernel_rfl)
    repeat still_step
    change wpList _ _ _ _ _ w2.drew
    generalize w2.drew = W3 at *
    obtain ⟨lv1, hM3, hN3⟩ := R3.out.noted
    have hN3 := Lib.hid hN3
    go_wp2_with fail
    refine (HWr.out lv1 _ hM3).mono ?_
    rintro e w4 ⟨rfl, lg', hlg', hRn⟩
    have R4 := Lib.hid (hN3.out _ _ _ hRn)
    clear hM3 hRn hN3 R3 HWr p0 p4 ltx
    go_wp2_with fail
    go_ret
    exact ⟨by rw [HE0.out]; rfl, lg', hlg', R4.out⟩
  · have e1 : (E != 0) = true := by simp [e0]
    rw [if_neg e0]
    clear e0
    go_enter Try.func19, Try.ntmps19
    go_wp2_with fail
    refine (HB.out _).mono ?_
    rintro e w2 ⟨rfl, hq⟩
    have R2 := HE.out.below hq
    clear hB hlt hne hq
    go_wp2_with fail
    go_ret
    exact ⟨rfl, lg, Nat.le_succ _, R2⟩
theorem rask_any {B gx gk : Nat} {lv : Value} {xs : List UInt8} {lg : List Acc} {q : Qs} {w : World} (h : Od B gx gk lv xs lg q w) (hlg : lg.length ≤ 4000) (hq : q.Ok xs.length) (o f : Int) (v : Bool) :
    Calls Try.prog 19 #[.pointer (some ⟨gx, 0, none⟩), .agg #[.int .i64 o, .bool v, .int .i64 f]] w (RaP B gx gk lv lg q w (askE q o f) (askX xs q o v f)) := by
  unfold askE askX
  cases hb : q.broken
  · rw [if_neg (by simp), if_neg (by simp)]; exact rask_good h hlg hq hb o f v
  · rw [if_pos rfl, if_pos rfl]; exact rask_broken h hb o f v
end Go.Proofs.Ytoblemgeacllkaa
namespace Go.Proofs.Ytoblemgeacllkaa
open Go.RowKit

theorem od_kept {B gq g gb gx gk : Nat} {lv lk : Value} {xs ys : List UInt8} {q p : Qs} {lg : List Acc} {W W' : World} (h : Own B gq g gb lv xs q W) (h' : Od B gx gk lk ys lg p W) (hl : ∀ k, lv.ownBlock = some k → lk.ownBlock ≠ some k)
    (hk : ∀ k, k < W.heap.size → k ≠ gq → k ≠ g → k ≠ gb → lv.ownBlock ≠ some k → W'.heap[k]? = W.heap[k]?) : Od B gx gk lk ys lg p W' := by
  obtain ⟨ag, lgm, old, m⟩ := h.mem
  obtain ⟨ag', mb⟩ := h'.mem.blk
  have e1 : W'.heap[gx]? = W.heap[gx]? := hk _ h'.blk.lt (h'.blk.ne h.blk (by decide)) (h'.blk.ne m.blk (by decide)) (h'.blk.ne m.row (by decide)) (own_ne m.log h'.blk (by decide))
  have e2 : W'.heap[gk]? = W.heap[gk]? := hk _ mb.lt (mb.ne h.blk (by decide)) (mb.ne m.blk (by decide)) (mb.ne m.row (by decide)) (own_ne m.log mb (by decide))
  have e3 : ∀ k, lk.ownBlock = some k → W'.heap[k]? = W.heap[k]? := fun k hk' =>
    hk k (h'.mem.log.lt k hk').2 (fun e => own_ne h'.mem.log h.blk (by decide) (e ▸ hk')) (fun e => own_ne h'.mem.log m.blk (by decide) (e ▸ hk')) (fun e => own_ne h'.mem.log m.row (by decide) (e ▸ hk')) (fun e => hl k e hk')
  exact ⟨h'.hx, h'.blk.same e1, h'.mem.kept e2 e3⟩
theorem own_kept {B gq g gb gx gk : Nat} {lv lk : Value} {xs ys : List UInt8} {q p : Qs} {lg : List Acc} {W W' : World} (h : Own B gq g gb lv xs q W) (h' : Od B gx gk lk ys lg p W)
    (hk : ∀ k, k < W.heap.size → k ≠ gx → k ≠ gk → W'.heap[k]? = W.heap[k]?) : Own B gq g gb lv xs q W' := by
  obtain ⟨ag, lgm, old, m⟩ := h.mem
  obtain ⟨ag', mb⟩ := h'.mem.blk
  exact ⟨h.hq, h.blk.same (hk _ h.blk.lt (h.blk.ne h'.blk (by decide)) (h.blk.ne mb (by decide))), ag, lgm, old, m.kept (hk _ m.blk.lt (m.blk.ne h'.blk (by decide)) (m.blk.ne mb (by decide))) (hk _ m.row.lt (m.row.ne h'.blk (by decide)) (m.row.ne mb (by decide)))
    (fun k hk' => hk k (m.log.lt k hk').2 (fun e => own_ne m.log h'.blk (by decide) (e ▸ hk')) (fun e => own_ne m.log mb (by decide) (e ▸ hk')))⟩
theorem Qn.of_noted {c : Ctx} {wE w : World} (h : Rm c wE c.w0) {ys : List UInt8} (hn : Noted c.B c.g c.gb c.lv ys c.w0 w) (hm : Mem c.B c.g c.gb c.lv c.xs c.w0) : Qn c c.q ys w := by
  have hk := Keep.of_noted hm hn
  obtain ⟨lv1, hM, hT, hL⟩ := hn
  exact ⟨h.blk.keep hk (by decide) (by decide) (by decide), ⟨lv1, hM, hL⟩, hT.os, hT.tape, hT.output, hT.size, fun k hk' _ a b d => hT.block k hk' a b d⟩
/-- nothing but blocks of the document's types has turned -/
structure FarD (w w' : World) : Prop where
  size : w.heap.size ≤ w'.heap.size
  block : ∀ (k : Nat) (t : TypeId) (cs : Array Value) (fr : Nat × Nat), w.heap[k]? = some (Obj.cells cs t fr) → t ≠ 48 → t ≠ 66 → w'.heap[k]? = w.heap[k]?
theorem Blk.farD {w w' : World} {k : Nat} {t : TypeId} {cs : Array Value} (h : Blk w k t cs) (hk : FarD w w') (a : t ≠ 48) (b : t ≠ 66) : Blk w' k t cs := h.same (hk.block k t cs _ h a b)
theorem own_farD {w w' : World} {base : Nat} {e : TypeId} {size n : Nat} {v : Value} {xs : List Value} (h : w.ownsRow base e size v n xs) (hk : FarD w w') (a : e ≠ 48) (b : e ≠ 66) : w'.ownsRow base e size v n xs := by
  refine ⟨h.1, ?_⟩
  rcases h.2 with hn | ⟨g, cap, cur, rfl, h1, hgg, rest⟩
  · exact .inl hn
  · exact .inr ⟨g, cap, cur, rfl, h1, (hk.block g e cur _ hgg a b).trans hgg, rest⟩
/-- both -/
structure Bo (w0 : World) (gq g gb : Nat) (xs : List UInt8) (q : Qs) (gx gk : Nat) (ys : List UInt8) (p : Qs) (lg : List Acc) (W : World) : Prop where
  own : ∃ lv lk, Own w0.heap.size gq g gb lv xs q W ∧ Od w0.heap.size gx gk lk ys lg p W ∧ ∀ k, lv.ownBlock = some k → lk.ownBlock ≠ some k
  below : Below w0.heap.size w0 W
section
variable {w0 : World} {gq g gb : Nat} {xs : List UInt8} {q : Qs} {gx gk : Nat} {ys : List UInt8} {p : Qs} {lg : List Acc} {W W' : World}
theorem Bo.ow (h : Bo w0 gq g gb xs q gx gk ys p lg W) : Ow w0 gq g gb xs q W := by
  obtain ⟨lv, lk, h1, h2, h3⟩ := h.own
  exact ⟨⟨lv, h1⟩, h.below⟩
theorem Od.below {B : Nat} {lk : Value} (h : Od B gx gk lk ys lg p W) (hb : Below W.heap.size W W') : Od B gx gk lk ys lg p W' := ⟨h.hx, h.blk.same (hb.block _ h.blk.lt), h.mem.below hb⟩
theorem Bo.next (h : Bo w0 gq g gb xs q gx gk ys p lg W) (hb : Below W.heap.size W W') : Bo w0 gq g gb xs q gx gk ys p lg W' := by
  obtain ⟨lv, lk, h1, h2, h3⟩ := h.own
  exact ⟨⟨lv, lk, h1.below hb, h2.below hb, h3⟩, b0 h.below hb⟩
theorem Bo.code (h : Bo w0 gq g gb xs q gx gk ys p lg W) : ∃ lv, Rm ⟨w0.heap.size, gq, g, gb, lv, xs, q, W⟩ W W ∧ Mem w0.heap.size g gb lv xs W ∧ ∀ q1 xs1 W', Qn ⟨w0.heap.size, gq, g, gb, lv, xs, q, W⟩ q1 xs1 W' → Bo w0 gq g gb xs1 q1 gx gk ys p lg W' ∧ Far W W' := by
  obtain ⟨lv, lk, h1, h2, h3⟩ := h.own
  refine ⟨lv, ⟨h1.blk, Noted.refl h1.mem, Keep.refl _, Nat.le_refl _⟩, h1.mem, fun q1 xs1 W' hQ => ?_⟩
  obtain ⟨lv1, hM, hL⟩ := hQ.mem
  have hge := h1.mem.ge
  have hq := h1.hq
  have s1 := h.below.size
  have s2 : W.heap.size ≤ W'.heap.size := hQ.size
  refine ⟨⟨⟨lv1, lk, ⟨h1.hq, hQ.blk, hM⟩, od_kept h1 h2 h3 hQ.block, fun k hk hk' => ?_⟩, ?_⟩, hQ.size, fun k t cs fr hk a b c d => ?_⟩
  · rcases hL k hk with e | e
    · exact h3 k e hk'
    · have e : W.heap.size ≤ k := e
      have := (h2.mem.log.lt k hk').2
      omega
  · refine ⟨hQ.os.trans h.below.os, hQ.tape.trans h.below.tape, hQ.output.trans h.below.output, Nat.le_trans s1 s2, fun k hk => ?_⟩
    exact (hQ.block k (Nat.lt_of_lt_of_le hk s1) (by show k ≠ gq; omega) (by show k ≠ g; have := hge.1; omega) (by show k ≠ gb; have := hge.2.1; omega) (fun e => by have := hge.2.2 k e; omega)).trans (h.below.block k hk)
  · obtain ⟨e1, e2, e3⟩ := h1.mem.far hk a b c
    refine hQ.block k (heap_lt hk) (fun e => ?_) e1 e2 e3
    have e : k = gq := e
    subst e
    have hb := h1.blk
    unfold Blk at hb
    rw [hb] at hk
    injection hk with hk
    injection hk with _ e2
    exact d e2.symm
theorem Bo.doc (h : Bo w0 gq g gb xs q gx gk ys p lg W) : ∃ lk, Od w0.heap.size gx gk lk ys lg p W ∧ ∀ p1 ys1 lg1 W', Ro w0.heap.size gx gk lk p1 ys1 lg1 W W' → Bo w0 gq g gb xs q gx gk ys1 p1 lg1 W' ∧ FarD W W' := by
  obtain ⟨lv, lk, h1, h2, h3⟩ := h.own
  refine ⟨lk, h2, fun p1 ys1 lg1 W' hR => ?_⟩
  obtain ⟨lk1, hM, hL⟩ := hR.mem
  obtain ⟨ag', mb⟩ := h2.mem.blk
  have s1 := h.below.size
  have hx := h2.hx
  have hgk := h2.mem.hB
  refine ⟨⟨⟨lv, lk1, own_kept h1 h2 hR.block, ⟨h2.hx, hR.blk, hM⟩, fun k hk hk' => ?_⟩, ?_⟩, hR.size, fun k t cs fr hk a b => ?_⟩
  · rcases hL k hk' with e | e
    · exact h3 k hk e
    · obtain ⟨ag, lgm, old, m⟩ := h1.mem
      have := (m.log.lt k hk).2
      omega
  · exact ⟨hR.os.trans h.below.os, hR.tape.trans h.below.tape, hR.output.trans h.below.output, Nat.le_trans s1 hR.size, fun k hk' => (hR.block k (by omega) (by omega) (by omega)).trans (h.below.block k hk')⟩
  · refine hR.block k (heap_lt hk) (fun e => ?_) (fun e => ?_)
    · subst e
      have hb := h2.blk
      unfold Blk at hb
      rw [hb] at hk
      injection hk with hk
      injection hk with _ e2
      exact a e2.symm
    · subst e
      unfold Blk at mb
      rw [mb] at hk
      injection hk with hk
      injection hk with _ e2
      exact b e2.symm
/-! the code's calls -/
def NextB (w0 : World) (gq g gb : Nat) (xs : List UInt8) (gx gk : Nat) (ys : List UInt8) (p : Qs) (lg : List Acc) (W : World) (r : Ch × Bool × Int × Qs) (e : Ending) (W' : World) : Prop :=
  ∃ A cap, e = .returned (.tuple #[.agg #[.int .i64 (r.1.id : Int), .int .i64 (r.1.count : Int), .slice A r.1.parts.length cap], .bool r.2.1, .int .i64 r.2.2.1]) ∧ W'.ownsRow W.heap.size 56 3 (.slice A r.1.parts.length cap) r.1.parts.length (ptCells r.1.parts) ∧ Bo w0 gq g gb xs r.2.2.2 gx gk ys p lg W' ∧ Far W W'
theorem Bo.nextQ (h : Bo w0 gq g gb xs q gx gk ys p lg W) (hq : q.Ok xs.length) (r : Ch × Bool × Int × Qs) (hr : nextC xs q = r) :
    Calls Try.prog 11 #[.pointer (some ⟨gq, 0, none⟩)] W (NextB w0 gq g gb xs gx gk ys p lg W r) := by
  obtain ⟨lv, hR, -, hQ⟩ := h.code
  refine (next_any hR hq).mono fun e W' ⟨A, cap, he, ho, hn⟩ => ?_
  have he : e = .returned (.tuple #[.agg #[.int .i64 ((nextC xs q).1.id : Int), .int .i64 ((nextC xs q).1.count : Int), .slice A (nextC xs q).1.parts.length cap], .bool (nextC xs q).2.1, .int .i64 (nextC xs q).2.2.1]) := he
  have ho : W'.ownsRow W.heap.size 56 3 (.slice A (nextC xs q).1.parts.length cap) (nextC xs q).1.parts.length (ptCells (nextC xs q).1.parts) := ho
  have hn : Qn ⟨w0.heap.size, gq, g, gb, lv, xs, q, W⟩ (nextC xs q).2.2.2 xs W' := hn
  rw [hr] at he ho hn
  exact ⟨A, cap, he, ho, hQ _ _ _ hn⟩
theorem Bo.doneQ (h : Bo w0 gq g gb xs q gx gk ys p lg W) (hq : q.Ok xs.length) (hs : q.since ≤ 1099511627776) (id count written : Int) (r : Int × List UInt8 × Qs) (hr : doneC xs q id count written = r) :
    Calls Try.prog 14 #[.pointer (some ⟨gq, 0, none⟩), .int .i64 id, .int .i64 count, .int .i64 written] W fun e W' => e = .returned (.int .i64 r.1) ∧ Bo w0 gq g gb r.2.1 r.2.2 gx gk ys p lg W' ∧ Far W W' := by
  subst hr
  obtain ⟨lv, hR, -, hQ⟩ := h.code
  exact (done_any hR hq hs id count written).mono fun e W' ⟨he, hn⟩ => ⟨he, hQ _ _ _ hn⟩
theorem Bo.tellQ (h : Bo w0 gq g gb xs q gx gk ys p lg W) (hq : q.Ok xs.length) (r : Bool × Qs) (hr : tellC xs q = r) :
    Calls Try.prog 16 #[.pointer (some ⟨gq, 0, none⟩)] W fun e W' => e = .returned (.bool r.1) ∧ Bo w0 gq g gb xs r.2 gx gk ys p lg W' ∧ Far W W' := by
  subst hr
  obtain ⟨lv, hR, -, hQ⟩ := h.code
  exact (tell_any hR hq).mono fun e W' ⟨he, hn⟩ => ⟨he, hQ _ _ _ hn⟩
theorem Bo.askQ (h : Bo w0 gq g gb xs q gx gk ys p lg W) (hq : q.Ok xs.length) (o f : Int) (v : Bool) :
    Calls Try.prog 18 #[.pointer (some ⟨gq, 0, none⟩), .agg #[.int .i64 o, .bool v, .int .i64 f]] W fun e W' => e = .returned (.int .i64 (askE q o f)) ∧ Bo w0 gq g gb (askX xs q o v f) q gx gk ys p lg W' ∧ Far W W' := by
  obtain ⟨lv, hR, -, hQ⟩ := h.code
  exact (ask_any hR hq o f v).mono fun e W' ⟨he, hn⟩ => ⟨he, hQ _ _ _ hn⟩
theorem Bo.failQ (h : Bo w0 gq g gb xs q gx gk ys p lg W) :
    Calls Try.prog 20 #[.pointer (some ⟨gq, 0, none⟩)] W fun e W' => e = .returned (.tuple #[]) ∧ Bo w0 gq g gb xs (brk q) gx gk ys p lg W' ∧ Far W W' := by
  obtain ⟨lv, hR, -, hQ⟩ := h.code
  exact (Go.Proofs.Ytoblemgeacllkaa.failQ hR).mono fun e W' ⟨he, hn⟩ => ⟨he, hQ _ _ _ hn⟩
theorem Bo.writeQ (h : Bo w0 gq g gb xs q gx gk ys p lg W) (a : Int) (s : ByteArray) (hs : s.size ≤ maxLen) :
    Calls Try.prog 9 #[.pointer (some ⟨g, 0, none⟩), .int .i64 a, .string s] W fun e W' => (∃ n, e = .returned (.int .i64 n)) ∧ Bo w0 gq g gb (wrX xs a s) q gx gk ys p lg W' ∧ Far W W' := by
  obtain ⟨lv, hR, hM, hQ⟩ := h.code
  exact (write_any hM a s hs).mono fun e W' ⟨he, hn⟩ => ⟨⟨_, he⟩, hQ _ _ _ (Qn.of_noted (c := ⟨w0.heap.size, gq, g, gb, lv, xs, q, W⟩) hR hn hM)⟩
/-! the document's calls -/
def RnextB (w0 : World) (gq g gb : Nat) (xs : List UInt8) (q : Qs) (gx gk : Nat) (ys : List UInt8) (lg : List Acc) (W : World) (r : Ch × Bool × Int × Qs) (e : Ending) (W' : World) : Prop :=
  ∃ A cap, e = .returned (.tuple #[.agg #[.int .i64 (r.1.id : Int), .int .i64 (r.1.count : Int), .slice A r.1.parts.length cap], .bool r.2.1, .int .i64 r.2.2.1]) ∧ W'.ownsRow W.heap.size 56 3 (.slice A r.1.parts.length cap) r.1.parts.length (ptCells r.1.parts) ∧ Bo w0 gq g gb xs q gx gk ys r.2.2.2 lg W' ∧ FarD W W'
theorem Bo.rnextQ (h : Bo w0 gq g gb xs q gx gk ys p lg W) (hq : p.Ok ys.length) (r : Ch × Bool × Int × Qs) (hr : nextC ys p = r) :
    Calls Try.prog 12 #[.pointer (some ⟨gx, 0, none⟩)] W (RnextB w0 gq g gb xs q gx gk ys lg W r) := by
  subst hr
  obtain ⟨lk, hO, hB⟩ := h.doc
  exact (rnextQ_any hO hq).mono fun e W' ⟨A, cap, he, ho, hn⟩ => ⟨A, cap, he, ho, hB _ _ _ _ hn⟩
theorem Bo.rdoneQ (h : Bo w0 gq g gb xs q gx gk ys p lg W) (hlg : lg.length ≤ 4000) (hq : p.Ok ys.length) (hs : p.since ≤ 1099511627776) (id count written : Int) (r : Int × List UInt8 × Qs) (hr : doneC ys p id count written = r) :
    Calls Try.prog 15 #[.pointer (some ⟨gx, 0, none⟩), .int .i64 id, .int .i64 count, .int .i64 written] W fun e W' => e = .returned (.int .i64 r.1) ∧ ∃ lg', lg'.length ≤ lg.length + 1 ∧ Bo w0 gq g gb xs q gx gk r.2.1 r.2.2 lg' W' ∧ FarD W W' := by
  subst hr
  obtain ⟨lk, hO, hB⟩ := h.doc
  exact (rdone_any hO hlg hq hs id count written).mono fun e W' ⟨he, lg', hl, hn⟩ => ⟨he, lg', hl, hB _ _ _ _ hn⟩
theorem Bo.rtellQ (h : Bo w0 gq g gb xs q gx gk ys p lg W) (hq : p.Ok ys.length) (r : Bool × Qs) (hr : tellC ys p = r) :
    Calls Try.prog 17 #[.pointer (some ⟨gx, 0, none⟩)] W fun e W' => e = .returned (.bool r.1) ∧ Bo w0 gq g gb xs q gx gk ys r.2 lg W' ∧ FarD W W' := by
  subst hr
  obtain ⟨lk, hO, hB⟩ := h.doc
  exact (rtell_any hO hq).mono fun e W' ⟨he, hn⟩ => ⟨he, hB _ _ _ _ hn⟩
theorem Bo.raskQ (h : Bo w0 gq g gb xs q gx gk ys p lg W) (hlg : lg.length ≤ 4000) (hq : p.Ok ys.length) (o f : Int) (v : Bool) :
    Calls Try.prog 19 #[.pointer (some ⟨gx, 0, none⟩), .agg #[.int .i64 o, .bool v, .int .i64 f]] W fun e W' => e = .returned (.int .i64 (askE p o f)) ∧ ∃ lg', lg'.length ≤ lg.length + 1 ∧ Bo w0 gq g gb xs q gx gk (askX ys p o v f) p lg' W' ∧ FarD W W' := by
  obtain ⟨lk, hO, hB⟩ := h.doc
  exact (rask_any hO hlg hq o f v).mono fun e W' ⟨he, lg', hl, hn⟩ => ⟨he, lg', hl, hB _ _ _ _ hn⟩
theorem Bo.rwriteQ (h : Bo w0 gq g gb xs q gx gk ys p lg W) (hlg : lg.length ≤ 4000) (a : Int) (s : ByteArray) :
    Calls Try.prog 10 #[.pointer (some ⟨gk, 0, none⟩), .int .i64 a, .string s] W fun e W' => (∃ n, e = .returned (.int .i64 n)) ∧ ∃ lg', lg'.length ≤ lg.length + 1 ∧ Bo w0 gq g gb xs q gx gk (wrX ys a s) p lg' W' ∧ FarD W W' := by
  obtain ⟨lk, hO, hB⟩ := h.doc
  obtain ⟨lv1, hM, hN⟩ := (Ro.refl hO).noted
  exact (rwrite_any hM hlg a s).mono fun e W' ⟨he, lg', hl, hn⟩ => ⟨⟨_, he⟩, lg', hl, hB _ _ _ _ (hN _ _ _ hn)⟩
theorem Bo.rfail (h : Bo w0 gq g gb xs q gx gk ys p lg W) : Bo w0 gq g gb xs q gx gk ys (brk p) lg (W.setCell ⟨gx, 13, none⟩ (.bool true)) ∧ FarD W (W.setCell ⟨gx, 13, none⟩ (.bool true)) := by
  obtain ⟨lk, hO, hB⟩ := h.doc
  exact hB _ _ _ _ ((Ro.refl hO).set 13 (.bool true) (q2 := brk p) rfl)
theorem Bo.cells (h : Bo w0 gq g gb xs q gx gk ys p lg W) : W.cell? ⟨gx, 0, none⟩ = some (.pointer (some ⟨gk, 0, none⟩)) ∧ W.cell? ⟨gx, 12, none⟩ = some (.int .i64 (p.out : Int)) ∧ W.cell? ⟨gx, 13, none⟩ = some (.bool p.broken) ∧ W.cell? ⟨gk, 0, none⟩ = some (.string ⟨ys.toArray⟩) ∧ W.frozen? ⟨gx, 13, none⟩ = false ∧ gx < W.heap.size ∧ gk < W.heap.size := by
  obtain ⟨lk, hO, hB⟩ := h.doc
  exact ⟨hO.blk.cell 0, hO.blk.cell 12, hO.blk.cell 13, hO.mem.c0, hO.blk.frozen 13, hO.blk.lt, hO.mem.lt⟩
/-- a store into a block of another type, behind the beginning -/
theorem Bo.put (h : Bo w0 gq g gb xs q gx gk ys p lg W) {k : Nat} {t : TypeId} {cs : Array Value} (hk : Blk W k t cs) (hE : w0.heap.size ≤ k) (a : t ≠ 91) (b : t ≠ 5) (d : t ≠ 111) (e : t ≠ 93) (f : t ≠ 48) (f2 : t ≠ 66) (i : Nat) (u : Value) : Bo w0 gq g gb xs q gx gk ys p lg (W.setCell ⟨k, i, none⟩ u) := by
  obtain ⟨lv, lk, h1, h2, h3⟩ := h.own
  obtain ⟨ag, lgm, old, m⟩ := h1.mem
  obtain ⟨ag', mb⟩ := h2.mem.blk
  have o : ∀ j, j ≠ k → (W.setCell ⟨k, i, none⟩ u).heap[j]? = W.heap[j]? := fun j hj => Below.heap_setCell W _ u j hj
  refine ⟨⟨lv, lk, ⟨h1.hq, h1.blk.other (fun x => hk.ne h1.blk e x.symm) i u, ag, lgm, old, m.kept (o _ (fun x => hk.ne m.blk a x.symm)) (o _ (fun x => hk.ne m.row b x.symm)) (fun j hj => o j (fun x => own_ne m.log hk (fun y => d y.symm) (x ▸ hj)))⟩,
    ⟨h2.hx, h2.blk.other (fun x => hk.ne h2.blk f x.symm) i u, h2.mem.kept (o _ (fun x => hk.ne mb f2 x.symm)) (fun j hj => o j (fun x => own_ne h2.mem.log hk (fun y => d y.symm) (x ▸ hj)))⟩, h3⟩, h.below.setCell hE u⟩
end
/-- an old queue, its clone, the document's -/
structure Bt (w0 : World) (gq g gb : Nat) (xs : List UInt8) (q : Qs) (gq' g' gb' : Nat) (xs' : List UInt8) (q' : Qs) (gx gk : Nat) (ys : List UInt8) (p : Qs) (lg : List Acc) (W : World) : Prop where
  own : ∃ lo ln lk, Own w0.heap.size gq g gb lo xs q W ∧ Own w0.heap.size gq' g' gb' ln xs' q' W ∧ Od w0.heap.size gx gk lk ys lg p W ∧ (∀ k, lo.ownBlock = some k → ln.ownBlock ≠ some k) ∧ (∀ k, lo.ownBlock = some k → lk.ownBlock ≠ some k) ∧ (∀ k, ln.ownBlock = some k → lk.ownBlock ≠ some k)
  nq : gq ≠ gq'
  ng : g ≠ g'
  nb : gb ≠ gb'
  below : Below w0.heap.size w0 W
section
variable {w0 : World} {gq g gb : Nat} {xs : List UInt8} {q : Qs} {gq' g' gb' : Nat} {xs' : List UInt8} {q' : Qs} {gx gk : Nat} {ys : List UInt8} {p : Qs} {lg : List Acc} {W W' : World}
theorem Bt.drop (h : Bt w0 gq g gb xs q gq' g' gb' xs' q' gx gk ys p lg W) : Bo w0 gq' g' gb' xs' q' gx gk ys p lg W := by
  obtain ⟨lo, ln, lk, h1, h2, h3, a, b, c⟩ := h.own
  exact ⟨⟨ln, lk, h2, h3, c⟩, h.below⟩
theorem Bt.old (h : Bt w0 gq g gb xs q gq' g' gb' xs' q' gx gk ys p lg W) : ∃ lo, Rm ⟨w0.heap.size, gq, g, gb, lo, xs, q, W⟩ W W ∧ Mem w0.heap.size g gb lo xs W ∧ ∀ q1 xs1 W', Qn ⟨w0.heap.size, gq, g, gb, lo, xs, q, W⟩ q1 xs1 W' → Bt w0 gq g gb xs1 q1 gq' g' gb' xs' q' gx gk ys p lg W' := by
  obtain ⟨lo, ln, lk, h1, h2, h3, a, b, c⟩ := h.own
  refine ⟨lo, ⟨h1.blk, Noted.refl h1.mem, Keep.refl _, Nat.le_refl _⟩, h1.mem, fun q1 xs1 W' hQ => ?_⟩
  obtain ⟨lv1, hM, hL⟩ := hQ.mem
  have hge := h1.mem.ge
  have hq := h1.hq
  have s1 := h.below.size
  have s2 : W.heap.size ≤ W'.heap.size := hQ.size
  refine ⟨⟨lv1, ln, lk, ⟨h1.hq, hQ.blk, hM⟩, h1.far2 h2 h.nq h.ng h.nb a hQ.block, od_kept h1 h3 b hQ.block, fun k hk hk' => ?_, fun k hk hk' => ?_, c⟩, h.nq, h.ng, h.nb, ?_⟩
  · rcases hL k hk with e | e
    · exact a k e hk'
    · have e : W.heap.size ≤ k := e
      obtain ⟨ag', lg', old', m'⟩ := h2.mem
      have := (m'.log.lt k hk').2
      omega
  · rcases hL k hk with e | e
    · exact b k e hk'
    · have e : W.heap.size ≤ k := e
      have := (h3.mem.log.lt k hk').2
      omega
  · refine ⟨hQ.os.trans h.below.os, hQ.tape.trans h.below.tape, hQ.output.trans h.below.output, Nat.le_trans s1 s2, fun k hk => ?_⟩
    exact (hQ.block k (Nat.lt_of_lt_of_le hk s1) (by show k ≠ gq; omega) (by show k ≠ g; have := hge.1; omega) (by show k ≠ gb; have := hge.2.1; omega) (fun e => by have := hge.2.2 k e; omega)).trans (h.below.block k hk)
theorem Bo.cloneM (h : Bo w0 gq g gb xs q gx gk ys p lg W) : Calls Try.prog 21 #[.pointer (some ⟨g, 0, none⟩)] W (Cloned xs W) := h.ow.cloneM
theorem Bo.cloneQ {g2 gb2 : Nat} {lv2 : Value} {W1 : World} (h : Bo w0 gq g gb xs q gx gk ys p lg W) (hb : Below W.heap.size W W1) (hM : Mem W.heap.size g2 gb2 lv2 xs W1) :
    Calls Try.prog 22 #[.pointer (some ⟨gq, 0, none⟩), .pointer (some ⟨g2, 0, none⟩)] W1 fun e W2 => e = .returned (.pointer (some ⟨W1.heap.size, 0, none⟩)) ∧ Bt w0 gq g gb xs q W1.heap.size g2 gb2 xs q gx gk ys p lg W2 := by
  obtain ⟨lo, lk, h1, h3, b⟩ := h.own
  have ho1 := h1.below hb
  have h31 := h3.below hb
  have hR : Rm ⟨w0.heap.size, gq, g, gb, lo, xs, q, W1⟩ W1 W1 := ⟨ho1.blk, Noted.refl ho1.mem, Keep.refl _, Nat.le_refl _⟩
  refine (qclone_any hR g2).mono fun e W2 ⟨he, hw⟩ => ⟨he, ?_⟩
  subst hw
  have s0 := h.below.size
  have s1 := hb.size
  obtain ⟨ag, lgm, old, m⟩ := h1.mem
  have hge := hM.ge
  refine ⟨⟨lo, lv2, lk, ho1.below (ba (Below.refl _ _) _), ⟨by omega, Blk.new _ _ _, (hM.down s0).below ((Below.refl _ _).alloc (Nat.le_refl _) _) (Nat.le_refl _)⟩, h31.below (ba (Below.refl _ _) _), fun k hk hk' => ?_, b, fun k hk hk' => ?_⟩, ?_, ?_, ?_, b0 h.below (ba hb _)⟩
  · have a1 := hge.2.2 k hk'
    have a2 := (m.log.lt k hk).2
    omega
  · have a1 := hge.2.2 k hk
    have a2 := (h3.mem.log.lt k hk').2
    omega
  · have := h1.blk.lt; omega
  · have := m.blk.lt; have := hge.1; omega
  · have := m.row.lt; have := hge.2.1; omega
theorem Bt.nextQ (h : Bt w0 gq g gb xs q gq' g' gb' xs' q' gx gk ys p lg W) (hq : q.Ok xs.length) :
    Calls Try.prog 11 #[.pointer (some ⟨gq, 0, none⟩)] W fun e W' => (∃ v, e = .returned v) ∧ Bt w0 gq g gb xs (nextC xs q).2.2.2 gq' g' gb' xs' q' gx gk ys p lg W' := by
  obtain ⟨lo, hR, -, hQ⟩ := h.old
  exact (next_any hR hq).mono fun e W' ⟨A, cap, he, ho, hn⟩ => ⟨⟨_, he⟩, hQ _ _ _ hn⟩
theorem Bt.doneQ (h : Bt w0 gq g gb xs q gq' g' gb' xs' q' gx gk ys p lg W) (hq : q.Ok xs.length) (hs : q.since ≤ 1099511627776) (id count written : Int) :
    Calls Try.prog 14 #[.pointer (some ⟨gq, 0, none⟩), .int .i64 id, .int .i64 count, .int .i64 written] W fun e W' => (∃ v, e = .returned v) ∧ ∃ xs1 q1, xs1.length = xs.length ∧ Bt w0 gq g gb xs1 q1 gq' g' gb' xs' q' gx gk ys p lg W' := by
  obtain ⟨lo, hR, -, hQ⟩ := h.old
  exact (done_any hR hq hs id count written).mono fun e W' ⟨he, hn⟩ => ⟨⟨_, he⟩, _, _, (doneC_ok hq id count written).1, hQ _ _ _ hn⟩
theorem Bt.failQ (h : Bt w0 gq g gb xs q gq' g' gb' xs' q' gx gk ys p lg W) :
    Calls Try.prog 20 #[.pointer (some ⟨gq, 0, none⟩)] W fun e W' => (∃ v, e = .returned v) ∧ Bt w0 gq g gb xs (brk q) gq' g' gb' xs' q' gx gk ys p lg W' := by
  obtain ⟨lo, hR, -, hQ⟩ := h.old
  exact (Go.Proofs.Ytoblemgeacllkaa.failQ hR).mono fun e W' ⟨he, hn⟩ => ⟨⟨_, he⟩, hQ _ _ _ hn⟩
theorem Bt.storeQ (h : Bt w0 gq g gb xs q gq' g' gb' xs' q' gx gk ys p lg W) (v : Nat) (hv : v < 18446744073709551616) (hn : 8 ≤ xs.length) :
    Calls Try.prog 23 #[.pointer (some ⟨g, 0, none⟩), .int .i64 0, .int .i64 8, .int .u64 (v : Int)] W fun e W' => (∃ x, e = .returned x) ∧ ∃ xs1, Bt w0 gq g gb xs1 q gq' g' gb' xs' q' gx gk ys p lg W' := by
  obtain ⟨lo, hR, hM, hQ⟩ := h.old
  have hw : Word 8 := .inr (.inr (.inr rfl))
  exact (store_ok hM 0 8 v hw hv (by omega)).mono fun e W' ⟨he, hn⟩ => ⟨⟨_, he⟩, _, hQ _ _ _ (Qn.of_noted (c := ⟨w0.heap.size, gq, g, gb, lo, xs, q, W⟩) hR hn hM)⟩
end
/-- a row of parts that may be written -/
def PtRow (B : Nat) (A : Option Addr) (L : Nat) (w : World) : Prop := 0 < L → ∃ gl cur, A = some ⟨gl, 0, none⟩ ∧ B ≤ gl ∧ Blk w gl 56 cur ∧ L * 3 ≤ cur.size
theorem PtRow.of {B : Nat} {A : Option Addr} {L cap : Nat} {ys : List Value} {w : World} (h : w.ownsRow B 56 3 (.slice A L cap) L ys) : PtRow B A L w := by
  intro hL
  rcases h.2 with ⟨hn, _⟩ | ⟨g, c, cur, he, h1, hb, _, _, hs, _⟩
  · injection hn with _ e _
    omega
  · injection he with e1 e2 e3
    have hl := h.1
    exact ⟨g, cur, e1, h1, hb, by omega⟩
end Go.Proofs.Ytoblemgeacllkaa
