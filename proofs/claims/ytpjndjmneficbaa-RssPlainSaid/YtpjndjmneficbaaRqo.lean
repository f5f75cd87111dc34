/-
  What rss's isHashed, queueOf and its closure, and the document's hashed answer: for valid rules and any flow.
-/
import Derived.Test.YtpjndjmneficbaaRck
import Derived.Test.YtpjndjmneficbaaFog
import Derived.Deep.QuietTactic
import Derived.BigQuiet
namespace Go.Proofs.Ytpjndjmneficbaa
open Go.RowKit

/-- has k the bit of kind n? -/
def hasB (k n : Int) : Bool := bits .and .i64 k (if n = 0 then 1 else if n = 1 then 2 else if n = 2 then 4 else if n = 3 then 8 else if n = 4 then 16 else if n = 5 then 32 else 64) != 0
theorem kind_cases {n : Int} (h0 : 0 ≤ n) (h6 : n ≤ 6) : n = 0 ∨ n = 1 ∨ n = 2 ∨ n = 3 ∨ n = 4 ∨ n = 5 ∨ n = 6 := by omega
theorem has_0 (k : Int) (A : Option Addr) (c : Nat) (L : List Int) (x : ByteArray) (d : Int) (y : ByteArray) (w : World) :
    Calls Try.prog 39 #[.agg #[.int .i64 k, .slice A L.length c, .string x, .int .i64 d], .agg #[.int .i64 0, .string y]] w fun e w' => e = .returned (.bool (hasB k 0)) ∧ Below w.heap.size w w' := by
  go_enter Try.func39, Try.ntmps39
  go_wp2_with fail
  go_quiet (fail)
  go_wp2
  go_ret
  exact ⟨ret_bool rfl, below_drewN (((Below.refl _ _).alloc (Nat.le_refl _) _).alloc (by simp) _) _⟩
theorem has_1 (k : Int) (A : Option Addr) (c : Nat) (L : List Int) (x : ByteArray) (d : Int) (y : ByteArray) (w : World) :
    Calls Try.prog 39 #[.agg #[.int .i64 k, .slice A L.length c, .string x, .int .i64 d], .agg #[.int .i64 1, .string y]] w fun e w' => e = .returned (.bool (hasB k 1)) ∧ Below w.heap.size w w' := by
  go_enter Try.func39, Try.ntmps39
  go_wp2_with fail
  go_quiet (fail)
  go_wp2
  go_ret
  exact ⟨ret_bool rfl, below_drewN (((Below.refl _ _).alloc (Nat.le_refl _) _).alloc (by simp) _) _⟩
theorem has_2 (k : Int) (A : Option Addr) (c : Nat) (L : List Int) (x : ByteArray) (d : Int) (y : ByteArray) (w : World) :
    Calls Try.prog 39 #[.agg #[.int .i64 k, .slice A L.length c, .string x, .int .i64 d], .agg #[.int .i64 2, .string y]] w fun e w' => e = .returned (.bool (hasB k 2)) ∧ Below w.heap.size w w' := by
  go_enter Try.func39, Try.ntmps39
  go_wp2_with fail
  go_quiet (fail)
  go_wp2
  go_ret
  exact ⟨ret_bool rfl, below_drewN (((Below.refl _ _).alloc (Nat.le_refl _) _).alloc (by simp) _) _⟩
theorem has_3 (k : Int) (A : Option Addr) (c : Nat) (L : List Int) (x : ByteArray) (d : Int) (y : ByteArray) (w : World) :
    Calls Try.prog 39 #[.agg #[.int .i64 k, .slice A L.length c, .string x, .int .i64 d], .agg #[.int .i64 3, .string y]] w fun e w' => e = .returned (.bool (hasB k 3)) ∧ Below w.heap.size w w' := by
  go_enter Try.func39, Try.ntmps39
  go_wp2_with fail
  go_quiet (fail)
  go_wp2
  go_ret
  exact ⟨ret_bool rfl, below_drewN (((Below.refl _ _).alloc (Nat.le_refl _) _).alloc (by simp) _) _⟩
theorem has_4 (k : Int) (A : Option Addr) (c : Nat) (L : List Int) (x : ByteArray) (d : Int) (y : ByteArray) (w : World) :
    Calls Try.prog 39 #[.agg #[.int .i64 k, .slice A L.length c, .string x, .int .i64 d], .agg #[.int .i64 4, .string y]] w fun e w' => e = .returned (.bool (hasB k 4)) ∧ Below w.heap.size w w' := by
  go_enter Try.func39, Try.ntmps39
  go_wp2_with fail
  go_quiet (fail)
  go_wp2
  go_ret
  exact ⟨ret_bool rfl, below_drewN (((Below.refl _ _).alloc (Nat.le_refl _) _).alloc (by simp) _) _⟩
theorem has_5 (k : Int) (A : Option Addr) (c : Nat) (L : List Int) (x : ByteArray) (d : Int) (y : ByteArray) (w : World) :
    Calls Try.prog 39 #[.agg #[.int .i64 k, .slice A L.length c, .string x, .int .i64 d], .agg #[.int .i64 5, .string y]] w fun e w' => e = .returned (.bool (hasB k 5)) ∧ Below w.heap.size w w' := by
  go_enter Try.func39, Try.ntmps39
  go_wp2_with fail
  go_quiet (fail)
  go_wp2
  go_ret
  exact ⟨ret_bool rfl, below_drewN (((Below.refl _ _).alloc (Nat.le_refl _) _).alloc (by simp) _) _⟩
theorem has_6 (k : Int) (A : Option Addr) (c : Nat) (L : List Int) (x : ByteArray) (d : Int) (y : ByteArray) (w : World) :
    Calls Try.prog 39 #[.agg #[.int .i64 k, .slice A L.length c, .string x, .int .i64 d], .agg #[.int .i64 6, .string y]] w fun e w' => e = .returned (.bool (hasB k 6)) ∧ Below w.heap.size w w' := by
  go_enter Try.func39, Try.ntmps39
  go_wp2_with fail
  go_quiet (fail)
  go_wp2
  go_ret
  exact ⟨ret_bool rfl, below_drewN (((Below.refl _ _).alloc (Nat.le_refl _) _).alloc (by simp) _) _⟩
theorem has_any (k : Int) (A : Option Addr) (c : Nat) (L : List Int) (x : ByteArray) (d : Int) (f : Fw) (w : World) (h0 : 0 ≤ f.kind) (h6 : f.kind ≤ 6) :
    Calls Try.prog 39 #[.agg #[.int .i64 k, .slice A L.length c, .string x, .int .i64 d], .agg #[.int .i64 f.kind, .string f.key]] w fun e w' => e = .returned (.bool (hasB k f.kind)) ∧ Below w.heap.size w w' := by
  obtain ⟨n, y⟩ := f
  simp only at h0 h6 ⊢
  rcases kind_cases h0 h6 with rfl | rfl | rfl | rfl | rfl | rfl | rfl
  · exact has_0 k A c L x d y w
  · exact has_1 k A c L x d y w
  · exact has_2 k A c L x d y w
  · exact has_3 k A c L x d y w
  · exact has_4 k A c L x d y w
  · exact has_5 k A c L x d y w
  · exact has_6 k A c L x d y w
theorem pow_six {j P : Nat} (h : j ≤ 6) (hP : P = 2 ^ j) : 1 ≤ P ∧ P ≤ 64 := by
  have : j = 0 ∨ j = 1 ∨ j = 2 ∨ j = 3 ∨ j = 4 ∨ j = 5 ∨ j = 6 := by omega
  rcases this with rfl | rfl | rfl | rfl | rfl | rfl | rfl <;> subst hP <;> decide
theorem has_is : ∀ (k : Fin 127) (n : Fin 7), k.val % 2 = 0 → hasB (k.val : Int) (n.val : Int) = (decide (0 < n.val) && decide (k.val / 2 ^ n.val % 2 = 1)) := by decide +kernel
set_option maxHeartbeats 1000000 in
theorem rhas_any (k : Nat) (A : Option Addr) (c : Nat) (L : List Int) (x : ByteArray) (d : Int) (n : Nat) (w : World) (hk : k ≤ 126) (hn : n ≤ 6) :
    Calls Try.prog 27 #[.agg #[.int .i64 (k : Int), .slice A L.length c, .string x, .int .i64 d], .int .i64 n] w fun e w' => e = .returned (.bool (decide (0 < n) && decide (k / 2 ^ n % 2 = 1))) ∧ Below w.heap.size w w' := by
  go_enter Try.func27, Try.ntmps27
  go_wp2_with fail
  go_loopw [5, 6] (fun p i wr => ∃ j P : Nat, j ≤ n ∧ P = 2 ^ j ∧ i = .int .i64 j ∧ p = .int .i64 P ∧ w.alloc (.cells #[.int .i64 (k : Int), .slice A L.length c, .string x, .int .i64 d] 24) = wr) (fun _ i _ => n - (intOf i).toNat)
  case atStart => exact ⟨0, 1, by omega, rfl, rfl, rfl, rfl⟩
  case round =>
    obtain ⟨j, P, hj, hP, rfl, rfl, rfl⟩ := hrel
    have hP1 : 1 ≤ P ∧ P ≤ 64 := pow_six (Nat.le_trans hj hn) hP
    by_cases hlt : j < n
    · have hP2 : P * 2 = 2 ^ (j + 1) := by rw [hP, Nat.pow_succ]
      have g1 : (j : Int) < (n : Int) := by omega
      have g2 : IntKind.i64.wrap ((P : Int) * 2) = (P : Int) * 2 := IntWalk.i64_in _ (by omega)
      have HP2 := Lib.hid hP2
      clear hP2 hP
      go_wp2_with fail
      go_roundw
      case rel => exact ⟨j + 1, P * 2, by omega, HP2.out, by go_num, by go_num, trivial⟩
      case measure => simp [intOf]; omega
    · obtain rfl : j = n := by omega
      have HP := Lib.hid hP
      clear hP
      have g1 : ¬ (j : Int) < (j : Int) := by omega
      by_cases h0 : 0 < j
      · have g3 : (0 : Int) < (j : Int) := by omega
        have g5 : ((P : Int) == 0) = false := by simp; omega
        have g6 : Int.tdiv (k : Int) (P : Int) = ((k / P : Nat) : Int) := by rw [Int.tdiv_eq_ediv_of_nonneg (by omega)]; omega
        have g7 : k / P ≤ 126 := Nat.le_trans (Nat.div_le_self _ _) hk
        obtain ⟨Q, hQ⟩ : ∃ Q, k / P = Q := ⟨_, rfl⟩
        rw [hQ] at g6 g7
        have HQ := Lib.hid hQ
        clear hQ
        have g8 : Int.tmod (Q : Int) 2 = ((Q % 2 : Nat) : Int) := by rw [Int.tmod_eq_emod_of_nonneg (by omega)]; omega
        have g9 : Q % 2 < 2 := Nat.mod_lt _ (by omega)
        have gA : IntKind.i64.wrap (Q : Int) = (Q : Int) := IntWalk.i64_in _ (by omega)
        obtain ⟨R, hR⟩ : ∃ R, Q % 2 = R := ⟨_, rfl⟩
        rw [hR] at g8 g9
        have HR := Lib.hid hR
        clear hR
        go_wp2_with fail
        go_ret
        exact ⟨ret_bool (by rw [← HP.out, HQ.out, HR.out]; rcases (by omega : R = 0 ∨ R = 1) with rfl | rfl <;> simp), (Below.refl _ _).alloc (Nat.le_refl _) _⟩
      · obtain rfl : j = 0 := by omega
        clear hlt
        go_wp2_with fail
        go_ret
        exact ⟨rfl, (Below.refl _ _).alloc (Nat.le_refl _) _⟩

/-- the element of a table that a flow's bytes lead to -/
def elemV (L : List Int) (x y : ByteArray) : Int := L.getD (hashV x y % L.length) 0
set_option maxHeartbeats 1000000 in
theorem elem_walk (k : Int) (A : Option Addr) (c : Nat) (L : List Int) (x : ByteArray) (d : Int) (fk : Int) (y : ByteArray) (g : Nat) (H j : Nat) (w : World) (hB : Blk w g 24 #[.int .i64 k, .slice A L.length c, .string x, .int .i64 d]) (hT : Tab A L w) (hH : IntKind.i64.wrap (H : Int) = H) (hm : Int.tmod (H : Int) (L.length : Int) = (j : Int)) (hj : j < L.length) (z : Int) (hz : L[j] = z)
    (A1 : ∀ W, Calls Try.prog 37 #[.string x, .agg #[.int .i64 fk, .string y]] W fun e w' => e = .returned (.tuple #[.int .u32 H, .int .i64 0]) ∧ Below W.heap.size W w') :
    Calls Try.prog 36 #[.agg #[.int .i64 fk, .string y], .pointer (some ⟨g, 0, none⟩)] w fun e w' => e = .returned (.int .i64 z) ∧ Below w.heap.size w w' := by
  have HA := Lib.hid A1
  have HT := Lib.hid hT
  have HB := Lib.hid hB
  have hg := hB.lt
  have c2 := hB.cell 2
  simp only [List.getElem?_toArray, List.getElem?_cons_zero, List.getElem?_cons_succ] at c2
  clear A1 hT hB
  go_enter Try.func36, Try.ntmps36
  go_wp2_with fail
  refine (HA.out _).mono ?_
  rintro e w1 ⟨rfl, hq⟩
  have hb : Below w.heap.size w w1 := ((Below.refl _ _).alloc (Nat.le_refl _) _).trans (hq.mono (by simp))
  have c1 := (HB.out.same (hb.block _ hg)).cell 1
  simp only [List.getElem?_toArray, List.getElem?_cons_zero, List.getElem?_cons_succ] at c1
  obtain ⟨b, off, z', rfl, hz', hc⟩ := (HT.out.below hb).at j hj
  obtain rfl : z = z' := hz.symm.trans hz'
  clear hz hz'
  clear c2 hq HA HT HB
  have e0 : (0 : Int) ≤ (j : Int) := by omega
  have e1 : (j : Int) < (L.length : Int) := by omega
  have e3 : ¬ (L.length : Int) = 0 := by omega
  have e2 : ((L.length : Int) == 0) = false := beq_eq_false_iff_ne.2 e3
  go_wp2_with fail
  go_quiet (fail)
  go_wp2
  go_ret
  exact ⟨rfl, below_drewN hb _⟩
theorem elem_any (k : Int) (A : Option Addr) (c : Nat) (L : List Int) (x : ByteArray) (d : Int) (f : Fw) (g : Nat) (w : World) (hB : Blk w g 24 #[.int .i64 k, .slice A L.length c, .string x, .int .i64 d]) (hT : Tab A L w) (hn : 1 ≤ L.length) (h4 : 4 ≤ x.size) (h52 : x.size ≤ 52) :
    Calls Try.prog 36 #[.agg #[.int .i64 f.kind, .string f.key], .pointer (some ⟨g, 0, none⟩)] w fun e w' => e = .returned (.int .i64 (elemV L x f.key)) ∧ Below w.heap.size w w' := by
  have hj : hashV x f.key % L.length < L.length := Nat.mod_lt _ (by omega)
  have hH := hashV_lt x f.key
  refine elem_walk k A c L x d f.kind f.key g (hashV x f.key) (hashV x f.key % L.length) w hB hT (IntWalk.i64_in _ (by omega)) ?_ hj _ ?_ (fun W => ?_)
  · rw [Int.tmod_eq_emod_of_nonneg (by omega)]; omega
  · rw [elemV, List.getD_eq_getElem?_getD, List.getElem?_eq_getElem hj]; rfl
  · have := flowHash_any x f W
    rw [hashE, if_neg (by omega)] at this
    exact this

set_option maxRecDepth 100000 in
set_option maxHeartbeats 1600000 in
theorem queue_own (k : Int) (A : Option Addr) (c : Nat) (L : List Int) (x : ByteArray) (d : Int) (fk : Int) (fy : ByteArray) (lk : Int) (ly : ByteArray) (z : Int) (w : World) (hT : Tab A L w)
    (A38 : ∀ W, Calls Try.prog 38 #[.agg #[.int .i64 fk, .string fy]] W fun e w' => e = .returned (.agg #[.int .i64 lk, .string ly]) ∧ Below W.heap.size W w')
    (A39 : ∀ W, Calls Try.prog 39 #[.agg #[.int .i64 k, .slice A L.length c, .string x, .int .i64 d], .agg #[.int .i64 fk, .string fy]] W fun e w' => e = .returned (.bool true) ∧ Below W.heap.size W w')
    (A36 : ∀ W, Blk W w.heap.size 24 #[.int .i64 k, .slice A L.length c, .string x, .int .i64 d] → Tab A L W → Calls Try.prog 36 #[.agg #[.int .i64 fk, .string fy], .pointer (some ⟨w.heap.size, 0, none⟩)] W fun e w' => e = .returned (.int .i64 z) ∧ Below W.heap.size W w') :
    Calls Try.prog 25 #[.agg #[.int .i64 k, .slice A L.length c, .string x, .int .i64 d], .agg #[.int .i64 fk, .string fy]] w fun e w' => e = .returned (.int .i64 z) ∧ Below w.heap.size w w' := by
  have H38 := Lib.hid A38
  have H39 := Lib.hid A39
  have H36 := Lib.hid A36
  have HT := Lib.hid hT
  clear A38 A39 A36 hT
  go_enter Try.func25, Try.ntmps25
  go_wp2_with fail
  refine (H38.out _).mono ?_
  rintro e w1 ⟨rfl, hq⟩
  have hr : Blk w1 w.heap.size 24 #[.int .i64 k, .slice A L.length c, .string x, .int .i64 d] := ((Blk.new w 24 _).alloc _).same (hq.block _ (by simp; omega))
  have hf : Blk w1 (w.heap.size + 1) 38 #[.int .i64 fk, .string fy] := by
    have := Blk.new (w.alloc (.cells #[.int .i64 k, .slice A L.length c, .string x, .int .i64 d] 24)) 38 #[.int .i64 fk, .string fy]
    rw [show (w.alloc (.cells #[.int .i64 k, .slice A L.length c, .string x, .int .i64 d] 24)).heap.size = w.heap.size + 1 by simp] at this
    exact this.same (hq.block _ (by simp))
  have hb : Below w.heap.size w w1 := (((Below.refl _ _).alloc (Nat.le_refl _) _).alloc (by simp) _).trans (hq.mono (by simp; omega))
  clear hq
  have hs := hf.lt
  have r0 := hr.cell 0
  have r1 := hr.cell 1
  have r2 := hr.cell 2
  have r3 := hr.cell 3
  have f0 := hf.cell 0
  have f1 := hf.cell 1
  simp only [List.getElem?_toArray, List.getElem?_cons_zero, List.getElem?_cons_succ] at r0 r1 r2 r3 f0 f1
  have n1 : w.heap.size < w1.heap.size := by omega
  have n2 : w.heap.size + 1 < w1.heap.size := by omega
  go_wp2_with fail
  refine (H39.out _).mono ?_
  rintro e w2 ⟨rfl, hq⟩
  have hb2 : Below w1.heap.size w1 w2 := ((Below.refl _ _).alloc (Nat.le_refl _) _).trans (hq.mono (by simp))
  have hl2 : Blk w2 w1.heap.size 38 #[.int .i64 lk, .string ly] := (Blk.new w1 38 _).same (hq.block _ (by simp))
  have n3 := hl2.lt
  have hr2 := hr.same (hb2.block _ n1)
  have hf2 := hf.same (hb2.block _ n2)
  have hb := hb.trans (hb2.mono hb.size)
  clear hq hb2 hr hf r0 r1 r2 r3 f0 f1
  have r0 := hr2.cell 0
  have r1 := hr2.cell 1
  have r2 := hr2.cell 2
  have r3 := hr2.cell 3
  have f0 := hf2.cell 0
  have f1 := hf2.cell 1
  have l0 := hl2.cell 0
  have l1 := hl2.cell 1
  simp only [List.getElem?_toArray, List.getElem?_cons_zero, List.getElem?_cons_succ] at r0 r1 r2 r3 f0 f1 l0 l1
  go_wp2_with fail
  refine (H36.out _ hr2 (HT.out.below hb)).mono ?_
  rintro e w4 ⟨rfl, hq⟩
  have hb := hb.trans (hq.mono hb.size)
  clear hq
  go_wp2_with fail
  go_ret
  exact ⟨rfl, hb⟩
set_option maxRecDepth 100000 in
set_option maxHeartbeats 1600000 in
theorem queue_less (k : Int) (A : Option Addr) (c : Nat) (L : List Int) (x : ByteArray) (d : Int) (fk : Int) (fy : ByteArray) (lk : Int) (ly : ByteArray) (z : Int) (w : World) (hT : Tab A L w)
    (A38 : ∀ W, Calls Try.prog 38 #[.agg #[.int .i64 fk, .string fy]] W fun e w' => e = .returned (.agg #[.int .i64 lk, .string ly]) ∧ Below W.heap.size W w')
    (A39 : ∀ W, Calls Try.prog 39 #[.agg #[.int .i64 k, .slice A L.length c, .string x, .int .i64 d], .agg #[.int .i64 fk, .string fy]] W fun e w' => e = .returned (.bool false) ∧ Below W.heap.size W w')
    (A39b : ∀ W, Calls Try.prog 39 #[.agg #[.int .i64 k, .slice A L.length c, .string x, .int .i64 d], .agg #[.int .i64 lk, .string ly]] W fun e w' => e = .returned (.bool true) ∧ Below W.heap.size W w')
    (A36 : ∀ W, Blk W w.heap.size 24 #[.int .i64 k, .slice A L.length c, .string x, .int .i64 d] → Tab A L W → Calls Try.prog 36 #[.agg #[.int .i64 lk, .string ly], .pointer (some ⟨w.heap.size, 0, none⟩)] W fun e w' => e = .returned (.int .i64 z) ∧ Below W.heap.size W w') :
    Calls Try.prog 25 #[.agg #[.int .i64 k, .slice A L.length c, .string x, .int .i64 d], .agg #[.int .i64 fk, .string fy]] w fun e w' => e = .returned (.int .i64 z) ∧ Below w.heap.size w w' := by
  have H38 := Lib.hid A38
  have H39 := Lib.hid A39
  have H36 := Lib.hid A36
  have H39b := Lib.hid A39b
  have HT := Lib.hid hT
  clear A38 A39 A36 A39b hT
  go_enter Try.func25, Try.ntmps25
  go_wp2_with fail
  refine (H38.out _).mono ?_
  rintro e w1 ⟨rfl, hq⟩
  have hr : Blk w1 w.heap.size 24 #[.int .i64 k, .slice A L.length c, .string x, .int .i64 d] := ((Blk.new w 24 _).alloc _).same (hq.block _ (by simp; omega))
  have hf : Blk w1 (w.heap.size + 1) 38 #[.int .i64 fk, .string fy] := by
    have := Blk.new (w.alloc (.cells #[.int .i64 k, .slice A L.length c, .string x, .int .i64 d] 24)) 38 #[.int .i64 fk, .string fy]
    rw [show (w.alloc (.cells #[.int .i64 k, .slice A L.length c, .string x, .int .i64 d] 24)).heap.size = w.heap.size + 1 by simp] at this
    exact this.same (hq.block _ (by simp))
  have hb : Below w.heap.size w w1 := (((Below.refl _ _).alloc (Nat.le_refl _) _).alloc (by simp) _).trans (hq.mono (by simp; omega))
  clear hq
  have hs := hf.lt
  have r0 := hr.cell 0
  have r1 := hr.cell 1
  have r2 := hr.cell 2
  have r3 := hr.cell 3
  have f0 := hf.cell 0
  have f1 := hf.cell 1
  simp only [List.getElem?_toArray, List.getElem?_cons_zero, List.getElem?_cons_succ] at r0 r1 r2 r3 f0 f1
  have n1 : w.heap.size < w1.heap.size := by omega
  have n2 : w.heap.size + 1 < w1.heap.size := by omega
  go_wp2_with fail
  refine (H39.out _).mono ?_
  rintro e w2 ⟨rfl, hq⟩
  have hb2 : Below w1.heap.size w1 w2 := ((Below.refl _ _).alloc (Nat.le_refl _) _).trans (hq.mono (by simp))
  have hl2 : Blk w2 w1.heap.size 38 #[.int .i64 lk, .string ly] := (Blk.new w1 38 _).same (hq.block _ (by simp))
  have n3 := hl2.lt
  have hr2 := hr.same (hb2.block _ n1)
  have hf2 := hf.same (hb2.block _ n2)
  have hb := hb.trans (hb2.mono hb.size)
  clear hq hb2 hr hf r0 r1 r2 r3 f0 f1
  have r0 := hr2.cell 0
  have r1 := hr2.cell 1
  have r2 := hr2.cell 2
  have r3 := hr2.cell 3
  have f0 := hf2.cell 0
  have f1 := hf2.cell 1
  have l0 := hl2.cell 0
  have l1 := hl2.cell 1
  simp only [List.getElem?_toArray, List.getElem?_cons_zero, List.getElem?_cons_succ] at r0 r1 r2 r3 f0 f1 l0 l1
  go_wp2_with fail
  refine (H39b.out _).mono ?_
  rintro e w3 ⟨rfl, hq⟩
  have hr3 := hr2.same (hq.block _ (by omega))
  have hl3 := hl2.same (hq.block _ n3)
  have hb := hb.trans (hq.mono hb.size)
  clear hq hr2 hf2 hl2 r0 r1 r2 r3 f0 f1 l0 l1
  have r3 := hr3.cell 3
  have l0 := hl3.cell 0
  have l1 := hl3.cell 1
  simp only [List.getElem?_toArray, List.getElem?_cons_zero, List.getElem?_cons_succ] at r3 l0 l1
  go_wp2_with fail
  refine (H36.out _ hr3 (HT.out.below hb)).mono ?_
  rintro e w4 ⟨rfl, hq⟩
  have hb := hb.trans (hq.mono hb.size)
  clear hq
  go_wp2_with fail
  go_ret
  exact ⟨rfl, hb⟩
set_option maxRecDepth 100000 in
set_option maxHeartbeats 1600000 in
theorem queue_none (k : Int) (A : Option Addr) (c : Nat) (L : List Int) (x : ByteArray) (d : Int) (fk : Int) (fy : ByteArray) (lk : Int) (ly : ByteArray) (w : World)
    (A38 : ∀ W, Calls Try.prog 38 #[.agg #[.int .i64 fk, .string fy]] W fun e w' => e = .returned (.agg #[.int .i64 lk, .string ly]) ∧ Below W.heap.size W w')
    (A39 : ∀ W, Calls Try.prog 39 #[.agg #[.int .i64 k, .slice A L.length c, .string x, .int .i64 d], .agg #[.int .i64 fk, .string fy]] W fun e w' => e = .returned (.bool false) ∧ Below W.heap.size W w')
    (A39b : ∀ W, Calls Try.prog 39 #[.agg #[.int .i64 k, .slice A L.length c, .string x, .int .i64 d], .agg #[.int .i64 lk, .string ly]] W fun e w' => e = .returned (.bool false) ∧ Below W.heap.size W w') :
    Calls Try.prog 25 #[.agg #[.int .i64 k, .slice A L.length c, .string x, .int .i64 d], .agg #[.int .i64 fk, .string fy]] w fun e w' => e = .returned (.int .i64 d) ∧ Below w.heap.size w w' := by
  have H38 := Lib.hid A38
  have H39 := Lib.hid A39
  have H39b := Lib.hid A39b
  clear A38 A39 A39b
  go_enter Try.func25, Try.ntmps25
  go_wp2_with fail
  refine (H38.out _).mono ?_
  rintro e w1 ⟨rfl, hq⟩
  have hr : Blk w1 w.heap.size 24 #[.int .i64 k, .slice A L.length c, .string x, .int .i64 d] := ((Blk.new w 24 _).alloc _).same (hq.block _ (by simp; omega))
  have hf : Blk w1 (w.heap.size + 1) 38 #[.int .i64 fk, .string fy] := by
    have := Blk.new (w.alloc (.cells #[.int .i64 k, .slice A L.length c, .string x, .int .i64 d] 24)) 38 #[.int .i64 fk, .string fy]
    rw [show (w.alloc (.cells #[.int .i64 k, .slice A L.length c, .string x, .int .i64 d] 24)).heap.size = w.heap.size + 1 by simp] at this
    exact this.same (hq.block _ (by simp))
  have hb : Below w.heap.size w w1 := (((Below.refl _ _).alloc (Nat.le_refl _) _).alloc (by simp) _).trans (hq.mono (by simp; omega))
  clear hq
  have hs := hf.lt
  have r0 := hr.cell 0
  have r1 := hr.cell 1
  have r2 := hr.cell 2
  have r3 := hr.cell 3
  have f0 := hf.cell 0
  have f1 := hf.cell 1
  simp only [List.getElem?_toArray, List.getElem?_cons_zero, List.getElem?_cons_succ] at r0 r1 r2 r3 f0 f1
  have n1 : w.heap.size < w1.heap.size := by omega
  have n2 : w.heap.size + 1 < w1.heap.size := by omega
  go_wp2_with fail
  refine (H39.out _).mono ?_
  rintro e w2 ⟨rfl, hq⟩
  have hb2 : Below w1.heap.size w1 w2 := ((Below.refl _ _).alloc (Nat.le_refl _) _).trans (hq.mono (by simp))
  have hl2 : Blk w2 w1.heap.size 38 #[.int .i64 lk, .string ly] := (Blk.new w1 38 _).same (hq.block _ (by simp))
  have n3 := hl2.lt
  have hr2 := hr.same (hb2.block _ n1)
  have hf2 := hf.same (hb2.block _ n2)
  have hb := hb.trans (hb2.mono hb.size)
  clear hq hb2 hr hf r0 r1 r2 r3 f0 f1
  have r0 := hr2.cell 0
  have r1 := hr2.cell 1
  have r2 := hr2.cell 2
  have r3 := hr2.cell 3
  have f0 := hf2.cell 0
  have f1 := hf2.cell 1
  have l0 := hl2.cell 0
  have l1 := hl2.cell 1
  simp only [List.getElem?_toArray, List.getElem?_cons_zero, List.getElem?_cons_succ] at r0 r1 r2 r3 f0 f1 l0 l1
  go_wp2_with fail
  refine (H39b.out _).mono ?_
  rintro e w3 ⟨rfl, hq⟩
  have hr3 := hr2.same (hq.block _ (by omega))
  have hl3 := hl2.same (hq.block _ n3)
  have hb := hb.trans (hq.mono hb.size)
  clear hq hr2 hf2 hl2 r0 r1 r2 r3 f0 f1 l0 l1
  have r3 := hr3.cell 3
  have l0 := hl3.cell 0
  have l1 := hl3.cell 1
  simp only [List.getElem?_toArray, List.getElem?_cons_zero, List.getElem?_cons_succ] at r3 l0 l1
  go_wp2_with fail
  go_ret
  exact ⟨rfl, hb⟩
end Go.Proofs.Ytpjndjmneficbaa
