/-
  control.command, Rx, Table, Mac, Vlan, Pairs: the commands' bytes; no condition but the lengths of what comes in.
-/
import Derived.Test.YtongkfimgohhbaaPt
namespace Go.Proofs.Ytongkfimgohhbaa
open Go.RowKit

/-- a command's bytes -/
def cmdS (c n : Int) (xs : List ByteArray) : ByteArray := lowS c 1 ++ lowS n 1 ++ catS xs
theorem catS_size (xs : List ByteArray) : (catS xs).size = (catL xs).length := rfl
theorem command_any (c n : Int) (A : Option Addr) (k : Nat) (xs : List ByteArray) (w : World) (h : Rd w.heap.size A (xs.map strV) w) (hc : xs.length ≤ k) (hN : xs.length ≤ 140737488355328) (hl : (catL xs).length ≤ 281474976710656) :
    Calls Try.prog 39 #[.int .i64 c, .int .i64 n, .slice A xs.length k] w fun e w' => e = .returned (.string (cmdS c n xs)) ∧ Below w.heap.size w w' := by
  have A1 := fun W => cput_1 c W
  have A2 := fun W => cput_1 n W
  have A3 := fun W (hb : Below w.heap.size w W) => join_any w.heap.size A k xs W (h.far (Nat.le_refl _) hb) hb.size hc hN hl
  have s1 := lowS_size c 1
  have s2 := lowS_size n 1
  have s3 : (catS xs).size ≤ 281474976710656 := hl
  unfold cmdS
  generalize lowS c 1 = p at *
  generalize lowS n 1 = q at *
  generalize catS xs = r at *
  have hpq : (p ++ q).size = 2 := by rw [ByteArray.size_append, s1, s2]
  have H1 := Lib.hid A1
  have H2 := Lib.hid A2
  have H3 := Lib.hid A3
  clear A1 A2 A3 h hN hl hc
  have g1 : ¬ 9223372036854775807 < p.size + q.size := by omega
  have g2 : ¬ 9223372036854775807 < (p ++ q).size + r.size := by omega
  clear s1 s2 s3 hpq
  go_enter Try.func39, Try.ntmps39
  go_wp2_with fail
  refine (H1.out _).mono ?_
  rintro e w1 ⟨rfl, hq1⟩
  have HB1 := Lib.hid hq1
  clear hq1 H1
  go_wp2_with fail
  refine (H2.out _).mono ?_
  rintro e w2 ⟨rfl, hq2⟩
  have HB2 := Lib.hid (bt2 HB1.out hq2)
  clear hq2 H2 HB1
  go_wp2_with fail
  refine (H3.out _ HB2.out).mono ?_
  rintro e w3 ⟨rfl, hq3⟩
  have HB3 := Lib.hid (bt2 HB2.out hq3)
  clear hq3 H3 HB2
  go_wp2
  go_ret
  exact ⟨rfl, HB3.out⟩
theorem rd_lit {w : World} {g : Nat} {t : TypeId} {xs : List ByteArray} (h : Blk w g t (xs.map strV).toArray) : Rd w.heap.size (some ⟨g, 0, none⟩) (xs.map strV) w := by
  intro _
  refine ⟨g, 0, rfl, h.lt, fun i hi => ?_⟩
  rw [Nat.zero_add, h.cell i]
  simp at hi
  simp [hi]
def onV (on : Bool) : Int := if on = true then 1 else 0
theorem rx_any (n : Int) (on : Bool) (w : World) :
    Calls Try.prog 14 #[.int .i64 n, .bool on] w fun e w' => e = .returned (.string (cmdS 0 n [lowS (onV on) 1])) ∧ Below w.heap.size w w' := by
  have A1 := fun W => cput_1 (onV on) W
  have s1 := lowS_size (onV on) 1
  have A2 := fun W g t (h : Blk W g t #[.string (lowS (onV on) 1)]) => command_any 0 n (some ⟨g, 0, none⟩) 1 [lowS (onV on) 1] W (rd_lit h) (Nat.le_refl _) (by simp) (by simp [catL]; show (lowS (onV on) 1).size ≤ _; omega)
  generalize cmdS 0 n [lowS (onV on) 1] = r at *
  generalize lowS (onV on) 1 = q at *
  have H1 := Lib.hid A1
  have H2 := Lib.hid A2
  clear A1 A2 s1
  cases on
  · rw [show onV false = 0 from rfl] at H1
    go_enter Try.func14, Try.ntmps14
    go_wp2_with fail
    refine (H1.out _).mono ?_
    rintro e w1 ⟨rfl, hq1⟩
    have HB1 := Lib.hid hq1
    clear hq1 H1
    go_wp2_with fail
    refine (H2.out _ _ _ (Blk.new w1 _ _)).mono ?_
    rintro e w2 ⟨rfl, hq2⟩
    have HB2 := Lib.hid (bt2 (ba HB1.out _) hq2)
    clear hq2 H2 HB1
    go_wp2
    go_ret
    exact ⟨rfl, HB2.out⟩
  · rw [show onV true = 1 from rfl] at H1
    go_enter Try.func14, Try.ntmps14
    go_wp2_with fail
    refine (H1.out _).mono ?_
    rintro e w1 ⟨rfl, hq1⟩
    have HB1 := Lib.hid hq1
    clear hq1 H1
    go_wp2_with fail
    refine (H2.out _ _ _ (Blk.new w1 _ _)).mono ?_
    rintro e w2 ⟨rfl, hq2⟩
    have HB2 := Lib.hid (bt2 (ba HB1.out _) hq2)
    clear hq2 H2 HB1
    go_wp2
    go_ret
    exact ⟨rfl, HB2.out⟩
theorem vlan_any (v : Int) (on : Bool) (w : World) :
    Calls Try.prog 19 #[.int .i64 v, .bool on] w fun e w' => e = .returned (.string (cmdS 2 (1 - onV on) [lowS v 2])) ∧ Below w.heap.size w w' := by
  have A1 := fun W => cput_2 v W
  have s1 := lowS_size v 2
  have A2 := fun W g t (h : Blk W g t #[.string (lowS v 2)]) => command_any 2 (1 - onV on) (some ⟨g, 0, none⟩) 1 [lowS v 2] W (rd_lit h) (Nat.le_refl _) (by simp) (by simp [catL]; show (lowS v 2).size ≤ _; omega)
  generalize cmdS 2 (1 - onV on) [lowS v 2] = r at *
  generalize lowS v 2 = q at *
  have H1 := Lib.hid A1
  have H2 := Lib.hid A2
  clear A1 A2 s1
  cases on
  · rw [show (1 - onV false : Int) = 1 from rfl] at H2
    go_enter Try.func19, Try.ntmps19
    go_wp2_with fail
    refine (H1.out _).mono ?_
    rintro e w1 ⟨rfl, hq1⟩
    have HB1 := Lib.hid hq1
    clear hq1 H1
    go_wp2_with fail
    refine (H2.out _ _ _ (Blk.new w1 _ _)).mono ?_
    rintro e w2 ⟨rfl, hq2⟩
    have HB2 := Lib.hid (bt2 (ba HB1.out _) hq2)
    clear hq2 H2 HB1
    go_wp2
    go_ret
    exact ⟨rfl, HB2.out⟩
  · rw [show (1 - onV true : Int) = 0 from rfl] at H2
    go_enter Try.func19, Try.ntmps19
    go_wp2_with fail
    refine (H1.out _).mono ?_
    rintro e w1 ⟨rfl, hq1⟩
    have HB1 := Lib.hid hq1
    clear hq1 H1
    go_wp2_with fail
    refine (H2.out _ _ _ (Blk.new w1 _ _)).mono ?_
    rintro e w2 ⟨rfl, hq2⟩
    have HB2 := Lib.hid (bt2 (ba HB1.out _) hq2)
    clear hq2 H2 HB1
    go_wp2
    go_ret
    exact ⟨rfl, HB2.out⟩
theorem pairs_any (v : Int) (w : World) :
    Calls Try.prog 20 #[.int .i64 v] w fun e w' => e = .returned (.string (cmdS 4 0 [lowS v 2])) ∧ Below w.heap.size w w' := by
  have A1 := fun W => cput_2 v W
  have s1 := lowS_size v 2
  have A2 := fun W g t (h : Blk W g t #[.string (lowS v 2)]) => command_any 4 0 (some ⟨g, 0, none⟩) 1 [lowS v 2] W (rd_lit h) (Nat.le_refl _) (by simp) (by simp [catL]; show (lowS v 2).size ≤ _; omega)
  generalize cmdS 4 0 [lowS v 2] = r at *
  generalize lowS v 2 = q at *
  have H1 := Lib.hid A1
  have H2 := Lib.hid A2
  clear A1 A2 s1
  go_enter Try.func20, Try.ntmps20
  go_wp2_with fail
  refine (H1.out _).mono ?_
  rintro e w1 ⟨rfl, hq1⟩
  have HB1 := Lib.hid hq1
  clear hq1 H1
  go_wp2_with fail
  refine (H2.out _ _ _ (Blk.new w1 _ _)).mono ?_
  rintro e w2 ⟨rfl, hq2⟩
  have HB2 := Lib.hid (bt2 (ba HB1.out _) hq2)
  clear hq2 H2 HB1
  go_wp2
  go_ret
  exact ⟨rfl, HB2.out⟩
theorem mac_any (m : ByteArray) (w : World) (hm : m.size ≤ 281474976710656) :
    Calls Try.prog 18 #[.string m] w fun e w' => e = .returned (.string (cmdS 1 1 [m])) ∧ Below w.heap.size w w' := by
  have A2 := fun W g t (h : Blk W g t #[.string m]) => command_any 1 1 (some ⟨g, 0, none⟩) 1 [m] W (rd_lit h) (Nat.le_refl _) (by simp) (by simp [catL]; exact hm)
  generalize cmdS 1 1 [m] = r at *
  have H2 := Lib.hid A2
  clear A2 hm
  go_enter Try.func18, Try.ntmps18
  go_wp2_with fail
  refine (H2.out _ _ _ (Blk.new w _ _)).mono ?_
  rintro e w2 ⟨rfl, hq2⟩
  have HB2 := Lib.hid (bt2 (ba (b0 w) _) hq2)
  clear hq2 H2
  go_wp2
  go_ret
  exact ⟨rfl, HB2.out⟩
def tabS (us ms : List ByteArray) : ByteArray := cmdS 1 0 [lowS us.length 4, catS us, lowS ms.length 4, catS ms]
theorem table_any (A : Option Addr) (c : Nat) (us : List ByteArray) (A' : Option Addr) (c' : Nat) (ms : List ByteArray) (B : Nat) (w : World) (hu : Rd B A (us.map strV) w) (hm : Rd B A' (ms.map strV) w) (hB : B ≤ w.heap.size) (hc : us.length ≤ c) (hc' : ms.length ≤ c')
    (n1 : us.length ≤ 140737488355328) (n2 : ms.length ≤ 140737488355328) (l1 : (catL us).length + (catL ms).length + 8 ≤ 281474976710656) :
    Calls Try.prog 16 #[.slice A us.length c, .slice A' ms.length c'] w fun e w' => e = .returned (.string (tabS us ms)) ∧ Below w.heap.size w w' := by
  have A1 := fun W => cput_4 (us.length : Nat) W
  have A2 := fun W (hb : Below w.heap.size w W) => join_any B A c us W (hu.far hB hb) (Nat.le_trans hB hb.size) hc n1 (by omega)
  have A3 := fun W => cput_4 (ms.length : Nat) W
  have A4 := fun W (hb : Below w.heap.size w W) => join_any B A' c' ms W (hm.far hB hb) (Nat.le_trans hB hb.size) hc' n2 (by omega)
  have A5 := fun W g t (h : Blk W g t #[.string (lowS us.length 4), .string (catS us), .string (lowS ms.length 4), .string (catS ms)]) => command_any 1 0 (some ⟨g, 0, none⟩) 4 [lowS us.length 4, catS us, lowS ms.length 4, catS ms] W (rd_lit h) (Nat.le_refl _) (by simp) (by
    have e1 : (lowS us.length 4).data.toList.length = 4 := lowL_length _ _
    have e2 : (lowS ms.length 4).data.toList.length = 4 := lowL_length _ _
    have e3 : (catS us).data.toList.length = (catL us).length := rfl
    have e4 : (catS ms).data.toList.length = (catL ms).length := rfl
    simp only [catL, List.map_cons, List.map_nil, List.flatten_cons, List.flatten_nil, List.append_nil, List.length_append, e1, e2]
    simp only [catL] at e3 e4 l1
    omega)
  have HU := Lib.hid hu
  have HM := Lib.hid hm
  unfold tabS
  generalize cmdS 1 0 [lowS us.length 4, catS us, lowS ms.length 4, catS ms] = r at *
  generalize lowS us.length 4 = q1 at *
  generalize catS us = q2 at *
  generalize lowS ms.length 4 = q3 at *
  generalize catS ms = q4 at *
  have H1 := Lib.hid A1
  have H2 := Lib.hid A2
  have H3 := Lib.hid A3
  have H4 := Lib.hid A4
  have H5 := Lib.hid A5
  clear A1 A2 A3 A4 A5 hu hm n1 n2 l1 hc hc' hB
  go_enter Try.func16, Try.ntmps16
  go_wp2_with fail
  refine (H1.out _).mono ?_
  rintro e w1 ⟨rfl, hq⟩
  have HB := Lib.hid hq
  clear hq H1
  go_wp2_with fail
  refine (H2.out _ HB.out).mono ?_
  rintro e w2 ⟨rfl, hq⟩
  replace HB := Lib.hid (bt2 HB.out hq)
  clear hq H2
  go_wp2_with fail
  refine (H3.out _).mono ?_
  rintro e w3 ⟨rfl, hq⟩
  replace HB := Lib.hid (bt2 HB.out hq)
  clear hq H3
  go_wp2_with fail
  refine (H4.out _ HB.out).mono ?_
  rintro e w4 ⟨rfl, hq⟩
  replace HB := Lib.hid (bt2 HB.out hq)
  clear hq H4
  go_wp2_with fail
  refine (H5.out _ _ _ (Blk.new w4 _ _)).mono ?_
  rintro e w5 ⟨rfl, hq⟩
  replace HB := Lib.hid (bt2 (ba HB.out _) hq)
  clear hq H5
  go_wp2
  go_ret
  exact ⟨rfl, HB.out⟩
end Go.Proofs.Ytongkfimgohhbaa
