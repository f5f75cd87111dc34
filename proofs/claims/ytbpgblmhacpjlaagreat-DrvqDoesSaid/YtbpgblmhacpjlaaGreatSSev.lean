/-
  Events: what get, put, Parse, Build and the document's Parse and Build answer.
-/
import Derived.Test.YtbpgblmhacpjlaaGreatZb
import Derived.Test.YtbpgblmhacpjlaaGreatZg
import Derived.Laws.BytesArg
import Derived.Lib.Hide
import Derived.Deep.RegionHeld3
import Derived.BigQuiet
import Derived.StillTailTactics
namespace Go.Proofs.YtbpgblmhacpjlaaGreat.Sp
open Go.RowKit

/-- the number of n bytes of s -/
def gn (s : ByteArray) (a n : Nat) : Nat := val (cutl s a n)
theorem gn_lt (s : ByteArray) (a n : Nat) (h : a + n ≤ s.size) : gn s a n < 256 ^ n := by
  have := val_lt (cutl s a n)
  rwa [cutl_length s a n h] at this
theorem getV_gn (s : ByteArray) (a n : Nat) (h1 : 1 ≤ n) (h2 : n ≤ 8) (h : a + n ≤ s.size) : getV s a n false = (gn s a n : Int) ∧ getE s a n = 0 := by
  have c : 1 ≤ (n : Int) ∧ (n : Int) ≤ 8 ∧ 0 ≤ (a : Int) ∧ (a : Int) + n ≤ s.size := ⟨by omega, by omega, by omega, by omega⟩
  constructor
  · rw [getV, if_pos c]; rfl
  · rw [getE, if_pos ⟨c.1, c.2.1⟩, if_pos c.2.2]
/-- the lowest n bytes of a number -/
def pb (v n : Nat) : ByteArray := ⟨(digs v n).toArray⟩
theorem pb_size (v n : Nat) : (pb v n).size = n := by
  show (digs v n).toArray.size = n
  simp [digs_length]
theorem pb_list (v n : Nat) : (pb v n).data.toList = digs v n := rfl
theorem putS_pb (v n : Nat) (h1 : 1 ≤ n) (h2 : n ≤ 8) (h : v < 256 ^ n) : putS v n false = pb v n ∧ putE v n = 0 := by
  have e : (v : Int) < 256 ^ n := by have := pow_cast n; omega
  have c : 1 ≤ (n : Int) ∧ (n : Int) ≤ 8 ∧ (v : Int) < 256 ^ (n : Int).toNat := ⟨by omega, by omega, by simpa using e⟩
  constructor
  · rw [putS, if_pos c]; rfl
  · rw [putE, if_pos c]
theorem sget_any (s : ByteArray) (a : Nat) (w : World) (hs : s.size = 4) (h : a + 2 ≤ s.size) :
    Calls Tryz.prog 87 #[.string s, .int .i64 a] w fun e w' => e = .returned (.int .i64 (gn s a 2 : Int)) ∧ Below w.heap.size w w' := by
  have hl := gn_lt s a 2 h
  have e0 : IntKind.i64.wrap (gn s a 2 : Int) = (gn s a 2 : Int) := wrap_nat _ hl
  have hv := getV_gn s a 2 (by decide) (by decide) h
  have HG := Lib.hid (fun W => get_any s a 2 false W (by unfold maxLen; omega))
  rw [show ((2 : Nat) : Int) = 2 from rfl] at hv
  rw [hv.1, hv.2] at HG
  generalize gn s a 2 = v at *
  clear hs h hv hl
  go_enter Tryz.func87, Tryz.ntmps87
  go_wp2_with fail
  refine (HG.out _).mono ?_
  rintro e w1 ⟨rfl, hq⟩
  go_wp2_with fail
  go_ret
  exact ⟨rfl, hq⟩
theorem sput_any (v : Nat) (w : World) (h : v < 65536) :
    Calls Tryz.prog 75 #[.int .i64 (v : Int)] w fun e w' => e = .returned (.string (pb v 2)) ∧ Below w.heap.size w w' := by
  have hv := putS_pb v 2 (by decide) (by decide) h
  have HG := Lib.hid (fun W => put_any v 2 false W (by omega))
  rw [show ((2 : Nat) : Int) = 2 from rfl] at hv
  rw [hv.1, hv.2] at HG
  have e0 : IntKind.u64.wrap (v : Int) = v := by rw [IntKind.wrap_u64]; omega
  clear hv h
  go_enter Tryz.func75, Tryz.ntmps75
  go_wp2_with fail
  refine (HG.out _).mono ?_
  rintro e w1 ⟨rfl, hq⟩
  go_wp2_with fail
  go_ret
  exact ⟨rfl, hq⟩
theorem top_and (x : Nat) (h : x < 65536) : bits .and .i64 (x : Int) 32768 = ((32768 * (x / 32768) : Nat) : Int) := by
  refine (bits_and x 32768 h (by decide)).trans ?_
  have e := byte_128 ⟨x / 256, by omega⟩
  simp only at e
  rw [two_and x 32768, show 32768 / 256 = 128 from rfl, show 32768 % 256 = 0 from rfl, Nat.and_zero, e]
  omega
theorem top_or (x : Nat) (h : x < 32768) : bits .or .i64 (x : Int) 32768 = ((x + 32768 : Nat) : Int) := by
  refine (bits_or x 32768 (by omega) (by decide)).trans ?_
  have e := byte_or ⟨x / 256, by omega⟩ ⟨1, by decide⟩
  simp only at e
  rw [two_or x 32768, show 32768 / 256 = 128 * 1 from rfl, show 32768 % 256 = 0 from rfl, Nat.or_zero, e]
  omega
theorem top_not (x : Nat) (h : x < 65536) : bits .andNot .i64 (x : Int) 32768 = ((x % 32768 : Nat) : Int) := by
  show IntKind.i64.wrap ((BitVec.ofInt 64 (x : Int) &&& ~~~ BitVec.ofInt 64 (32768 : Int)).toNat : Nat) = _
  have e1 : (~~~ BitVec.ofInt 64 (32768 : Int)) = BitVec.ofNat 64 (2 ^ 64 - 1 - 32768) := by decide
  have e2 : (BitVec.ofInt 64 (x : Int) &&& ~~~ BitVec.ofInt 64 (32768 : Int)) = BitVec.ofInt 64 (x : Int) &&& BitVec.ofInt 64 (32767 : Int) := by
    rw [e1]
    apply BitVec.eq_of_toNat_eq
    rw [BitVec.toNat_and, BitVec.toNat_and, of_nat x h]
    have e3 : (BitVec.ofNat 64 (2 ^ 64 - 1 - 32768)).toNat = 32767 + 2 ^ 16 * (2 ^ 48 - 1) := by decide
    have e4 : (BitVec.ofInt 64 (32767 : Int)).toNat = 32767 := by decide
    rw [e3, e4]
    have a1 : x &&& (2 ^ 16 - 1) = x := by rw [Nat.and_two_pow_sub_one_eq_mod]; omega
    rw [← a1, Nat.and_assoc, Nat.and_assoc]
    rfl
  rw [e2, BitVec.toNat_and, of_nat x h, show (BitVec.ofInt 64 (32767 : Int)).toNat = 2 ^ 15 - 1 from by decide, Nat.and_two_pow_sub_one_eq_mod, wrap_nat _ (by omega)]
theorem parse_results (f : Func) (w : World) (tmps : Array Value) (gf : Nat) {n : Int} (hf : f.results = Tryz.f71.results) (h2 : tmps[2]?.getD undef = .pointer (some ⟨gf, 0, none⟩)) (h3 : tmps[3]?.getD undef = .int .i64 n) (a b c : Value)
    (hF : Blk w gf 34 #[a, b, c]) : (results f tmps).run Tryz.prog w = .ok (.tuple #[.agg #[a, b, c], .int .i64 n]) w := by
  have c0 := hF.cell 0
  have c1 := hF.cell 1
  have c2 := hF.cell 2
  simp only [List.getElem?_toArray, List.getElem?_cons_zero, List.getElem?_cons_succ] at c0 c1 c2
  simp [results, hf, Tryz.results71, go_sem, h2, h3, c0, c1, c2]
theorem _root_.Go.Proofs.YtbpgblmhacpjlaaGreat.Held.set3 {w w1 : World} {t : TypeId} {a0 a1 a2 : Value} (h : Held w t #[a0, a1, a2] w1) (b0 b1 b2 : Value) :
    Held w t #[b0, b1, b2] (((w1.setCell ⟨w.heap.size, 0, none⟩ b0).setCell ⟨w.heap.size, 1, none⟩ b1).setCell ⟨w.heap.size, 2, none⟩ b2) := by
  refine ⟨?_, ((h.below.setCell (Nat.le_refl _) _).setCell (Nat.le_refl _) _).setCell (Nat.le_refl _) _⟩
  have := ((h.blk.put 0 b0).put 1 b1).put 2 b2
  simpa using this
theorem _root_.Go.Proofs.YtbpgblmhacpjlaaGreat.Held.facts3 {w w1 : World} {t : TypeId} {a b c : Value} (h : Held w t #[a, b, c] w1) :
    w1.cell? ⟨w.heap.size, 0, none⟩ = some a ∧ w1.cell? ⟨w.heap.size, 1, none⟩ = some b ∧ w1.cell? ⟨w.heap.size, 2, none⟩ = some c ∧
    w1.frozen? ⟨w.heap.size, 0, none⟩ = false ∧ w1.frozen? ⟨w.heap.size, 1, none⟩ = false ∧ w1.frozen? ⟨w.heap.size, 2, none⟩ = false :=
  ⟨h.blk.cell 0, h.blk.cell 1, h.blk.cell 2, h.blk.frozen 0, h.blk.frozen 1, h.blk.frozen 2⟩
def RP (w : World) (o : Int) (v : Bool) (f E : Int) (e : Ending) (w' : World) : Prop := e = .returned (.tuple #[.agg #[.int .i64 o, .bool v, .int .i64 f], .int .i64 E]) ∧ Below w.heap.size w w'
theorem parse_walk (s : ByteArray) (O R B F : Int) (v : Bool) (w : World) (hc : ((s.size : Int) != 4) = false) (b1 : bits .andNot .i64 O 32768 = R) (b2 : bits .and .i64 O 32768 = B) (b3 : (B != 0) = v)
    (H1 : ∀ W, Calls Tryz.prog 87 #[.string s, .int .i64 0] W fun e w' => e = .returned (.int .i64 O) ∧ Below W.heap.size W w')
    (H2 : ∀ W, Calls Tryz.prog 87 #[.string s, .int .i64 2] W fun e w' => e = .returned (.int .i64 F) ∧ Below W.heap.size W w') :
    Calls Tryz.prog 71 #[.string s] w (RP w R v F 0) := by
  have G1 := Lib.hid H1
  have G2 := Lib.hid H2
  clear H1 H2
  go_enter Tryz.func71, Tryz.ntmps71
  go_wp2_with fail
  refine (G1.out _).mono ?_
  rintro e w1 ⟨rfl, hq⟩
  have e1 := (Held.new w 34 #[.int .i64 0, .bool false, .int .i64 0]).next hq
  clear hq
  go_wp2_with fail
  refine (G2.out _).mono ?_
  rintro e w2 ⟨rfl, hq⟩
  have e2 := e1.next hq
  clear hq e1
  obtain ⟨c0, c1, c2, z0, z1, z2⟩ := e2.facts3
  have hZ := e2.set3 (.int .i64 R) (.bool v) (.int .i64 F)
  go_wp2_with fail
  exact bodyPost_ret (v := .tuple #[.agg #[.int .i64 R, .bool v, .int .i64 F], .int .i64 0]) (parse_results _ _ _ w.heap.size rfl rfl rfl _ _ _ hZ.blk) rfl ⟨rfl, hZ.below⟩
theorem parse_bad (s : ByteArray) (hc : ((s.size : Int) != 4) = true) (w : World) : Calls Tryz.prog 71 #[.string s] w (RP w 0 false 0 1) := by
  have e1 := Held.new w 34 #[.int .i64 0, .bool false, .int .i64 0]
  go_enter Tryz.func71, Tryz.ntmps71
  go_wp2_with fail
  exact bodyPost_ret (v := .tuple #[.agg #[.int .i64 0, .bool false, .int .i64 0], .int .i64 1]) (parse_results _ _ _ w.heap.size rfl rfl rfl _ _ _ e1.blk) rfl ⟨rfl, e1.below⟩
/-- which event bytes are -/
def paE (s : ByteArray) : Int := if s.size = 4 then 0 else 1
def paO (s : ByteArray) : Int := if s.size = 4 then ((gn s 0 2 % 32768 : Nat) : Int) else 0
def paW (s : ByteArray) : Bool := if s.size = 4 then decide (32768 ≤ gn s 0 2) else false
def paF (s : ByteArray) : Int := if s.size = 4 then (gn s 2 2 : Int) else 0
theorem parse_any (s : ByteArray) (w : World) : Calls Tryz.prog 71 #[.string s] w (RP w (paO s) (paW s) (paF s) (paE s)) := by
  by_cases h : s.size = 4
  · rw [paO, paW, paF, paE, if_pos h, if_pos h, if_pos h, if_pos h]
    have hl := gn_lt s 0 2 (by omega)
    refine parse_walk s _ _ _ _ _ w (by rw [h]; rfl) (top_not _ hl) (top_and _ hl) ?_ (fun W => sget_any s 0 W h (by omega)) (fun W => sget_any s 2 W h (by omega))
    by_cases k : 32768 ≤ gn s 0 2
    · rw [decide_eq_true k]; simp; omega
    · rw [decide_eq_false k]; simp; omega
  · rw [paO, paW, paF, paE, if_neg h, if_neg h, if_neg h, if_neg h]
    exact parse_bad s (by simp; omega) w
theorem rparse_bad (s : ByteArray) (hc : ((s.size : Int) != 4) = true) (w : World) : Calls Tryz.prog 45 #[.string s] w (RP w 0 false 0 1) := by
  have e1 := Held.new w 34 #[.int .i64 0, .bool false, .int .i64 0]
  go_enter Tryz.func45, Tryz.ntmps45
  go_wp2_with fail
  exact bodyPost_ret (v := .tuple #[.agg #[.int .i64 0, .bool false, .int .i64 0], .int .i64 1]) (parse_results _ _ _ w.heap.size rfl rfl rfl _ _ _ e1.blk) rfl ⟨rfl, e1.below⟩
set_option maxRecDepth 100000 in
theorem rparse_walk (s : ByteArray) (w : World) (hs : s.size = 4) (m0 m1 m2 m3 : Nat) (e0 : (s[0]'(by omega)).toNat = m0) (e1 : (s[1]'(by omega)).toNat = m1) (e2 : (s[2]'(by omega)).toNat = m2) (e3 : (s[3]'(by omega)).toNat = m3)
    (q0 : m0 < 256) (q1 : m1 < 256) (q2 : m2 < 256) (q3 : m3 < 256) (O R F : Int) (v : Bool) (hO : (m0 : Int) + 256 * (m1 : Int) = O) (hF : (m2 : Int) + 256 * (m3 : Int) = F) (hR : O.tmod 32768 = R) (hv : decide (32768 ≤ O) = v) :
    Calls Tryz.prog 45 #[.string s] w (RP w R v F 0) := by
  have v0 : IntKind.i64.wrap (m0 : Int) = m0 := by rw [IntKind.wrap_i64]; omega
  have v1 : IntKind.i64.wrap (m1 : Int) = m1 := by rw [IntKind.wrap_i64]; omega
  have v2 : IntKind.i64.wrap (m2 : Int) = m2 := by rw [IntKind.wrap_i64]; omega
  have v3 : IntKind.i64.wrap (m3 : Int) = m3 := by rw [IntKind.wrap_i64]; omega
  have v4 : IntKind.i64.wrap (256 * (m1 : Int)) = 256 * (m1 : Int) := by rw [IntKind.wrap_i64]; omega
  have v5 : IntKind.i64.wrap (256 * (m3 : Int)) = 256 * (m3 : Int) := by rw [IntKind.wrap_i64]; omega
  have v6 : IntKind.i64.wrap ((m0 : Int) + 256 * (m1 : Int)) = O := by rw [IntKind.wrap_i64]; omega
  have v7 : IntKind.i64.wrap ((m2 : Int) + 256 * (m3 : Int)) = F := by rw [IntKind.wrap_i64]; omega
  have j1 : ((s.size : Int) != 4) = false := by rw [hs]; rfl
  have j2 : (0 : Int) < s.size := by omega
  have j3 : (1 : Int) < s.size := by omega
  have j4 : (2 : Int) < s.size := by omega
  have j5 : (3 : Int) < s.size := by omega
  clear hO hF q0 q1 q2 q3
  have n1 := Held.new w 34 #[.int .i64 0, .bool false, .int .i64 0]
  go_enter Tryz.func45, Tryz.ntmps45
  go_wp2_with fail
  go_quiet (fail)
  have n2 := n1.next (below_drewN (Below.refl _ _) nq)
  generalize World.drewN _ nq = W2 at *
  go_wp2_with fail
  have n3 := n2.drew
  clear n2
  obtain ⟨c0, c1, c2, z0, z1, z2⟩ := n3.facts3
  go_still_tail 13, (by kernel_rfl)
  change wpList _ _ _ _ _ W2.drew
  generalize W2.drew = W3 at *
  have hZ := n3.set3 (.int .i64 R) (.bool v) (.int .i64 F)
  go_wp2_with fail
  exact bodyPost_ret (v := .tuple #[.agg #[.int .i64 R, .bool v, .int .i64 F], .int .i64 0]) (parse_results _ _ _ w.heap.size rfl rfl rfl _ _ _ hZ.blk) rfl ⟨rfl, hZ.below⟩
theorem four (s : ByteArray) (h : s.size = 4) : ∃ a b c d : UInt8, s = ⟨#[a, b, c, d]⟩ := by
  obtain ⟨⟨l⟩⟩ := s
  have hl : l.length = 4 := h
  match l, hl with
  | [a, b, c, d], _ => exact ⟨a, b, c, d, rfl⟩
theorem gn_four (a b c d : UInt8) : gn ⟨#[a, b, c, d]⟩ 0 2 = a.toNat + 256 * b.toNat ∧ gn ⟨#[a, b, c, d]⟩ 2 2 = c.toNat + 256 * d.toNat := ⟨rfl, rfl⟩
theorem rparse_any (s : ByteArray) (w : World) : Calls Tryz.prog 45 #[.string s] w (RP w (paO s) (paW s) (paF s) (paE s)) := by
  by_cases h : s.size = 4
  · rw [paO, paW, paF, paE, if_pos h, if_pos h, if_pos h, if_pos h]
    obtain ⟨a, b, c, d, rfl⟩ := four s h
    obtain ⟨g1, g2⟩ := gn_four a b c d
    have a1 := a.toNat_lt
    have a2 := b.toNat_lt
    have a3 := c.toNat_lt
    have a4 := d.toNat_lt
    rw [g1, g2]
    refine rparse_walk _ w h a.toNat b.toNat c.toNat d.toNat rfl rfl rfl rfl a1 a2 a3 a4 ((a.toNat + 256 * b.toNat : Nat) : Int) _ _ _ (by omega) (by omega) ?_ ?_
    · rw [Int.tmod_eq_emod_of_nonneg (by omega)]; omega
    · by_cases k : 32768 ≤ a.toNat + 256 * b.toNat
      · rw [decide_eq_true k, decide_eq_true (by omega)]
      · rw [decide_eq_false k, decide_eq_false (by omega)]
  · rw [paO, paW, paF, paE, if_neg h, if_neg h, if_neg h, if_neg h]
    exact rparse_bad s (by simp; omega) w
def RS (w : World) (S : ByteArray) (E : Int) (e : Ending) (w' : World) : Prop := e = .returned (.tuple #[.string S, .int .i64 E]) ∧ Below w.heap.size w w'
theorem build_b0 (o f : Int) (v : Bool) (w : World) (h0 : o < 0) : Calls Tryz.prog 47 #[.agg #[.int .i64 o, .bool v, .int .i64 f]] w (RS w ⟨#[]⟩ 1) := by
  go_enter Tryz.func47, Tryz.ntmps47
  go_wp2
  go_ret2
  exact ⟨rfl, ba (Below.refl _ _) _⟩
theorem rbuild_b0 (o f : Int) (v : Bool) (w : World) (h0 : o < 0) : Calls Tryz.prog 48 #[.agg #[.int .i64 o, .bool v, .int .i64 f]] w (RS w ⟨#[]⟩ 1) := by
  go_enter Tryz.func48, Tryz.ntmps48
  go_wp2
  go_ret2
  exact ⟨rfl, ba (Below.refl _ _) _⟩
theorem build_b1 (o f : Int) (v : Bool) (w : World) (h0 : ¬ o < 0) (h1 : 32767 < o) : Calls Tryz.prog 47 #[.agg #[.int .i64 o, .bool v, .int .i64 f]] w (RS w ⟨#[]⟩ 1) := by
  go_enter Tryz.func47, Tryz.ntmps47
  go_wp2
  go_ret2
  exact ⟨rfl, ba (Below.refl _ _) _⟩
theorem rbuild_b1 (o f : Int) (v : Bool) (w : World) (h0 : ¬ o < 0) (h1 : 32767 < o) : Calls Tryz.prog 48 #[.agg #[.int .i64 o, .bool v, .int .i64 f]] w (RS w ⟨#[]⟩ 1) := by
  go_enter Tryz.func48, Tryz.ntmps48
  go_wp2
  go_ret2
  exact ⟨rfl, ba (Below.refl _ _) _⟩
theorem build_b2 (o f : Int) (v : Bool) (w : World) (h0 : ¬ o < 0) (h1 : ¬ 32767 < o) (h2 : f < 0) : Calls Tryz.prog 47 #[.agg #[.int .i64 o, .bool v, .int .i64 f]] w (RS w ⟨#[]⟩ 1) := by
  go_enter Tryz.func47, Tryz.ntmps47
  go_wp2
  go_ret2
  exact ⟨rfl, ba (Below.refl _ _) _⟩
theorem rbuild_b2 (o f : Int) (v : Bool) (w : World) (h0 : ¬ o < 0) (h1 : ¬ 32767 < o) (h2 : f < 0) : Calls Tryz.prog 48 #[.agg #[.int .i64 o, .bool v, .int .i64 f]] w (RS w ⟨#[]⟩ 1) := by
  go_enter Tryz.func48, Tryz.ntmps48
  go_wp2
  go_ret2
  exact ⟨rfl, ba (Below.refl _ _) _⟩
theorem build_b3 (o f : Int) (v : Bool) (w : World) (h0 : ¬ o < 0) (h1 : ¬ 32767 < o) (h2 : ¬ f < 0) (h3 : 65535 < f) : Calls Tryz.prog 47 #[.agg #[.int .i64 o, .bool v, .int .i64 f]] w (RS w ⟨#[]⟩ 1) := by
  go_enter Tryz.func47, Tryz.ntmps47
  go_wp2
  go_ret2
  exact ⟨rfl, ba (Below.refl _ _) _⟩
theorem rbuild_b3 (o f : Int) (v : Bool) (w : World) (h0 : ¬ o < 0) (h1 : ¬ 32767 < o) (h2 : ¬ f < 0) (h3 : 65535 < f) : Calls Tryz.prog 48 #[.agg #[.int .i64 o, .bool v, .int .i64 f]] w (RS w ⟨#[]⟩ 1) := by
  go_enter Tryz.func48, Tryz.ntmps48
  go_wp2
  go_ret2
  exact ⟨rfl, ba (Below.refl _ _) _⟩
/-- a variable of three cells, its cells said one by one -/
def H3 (w : World) (t : TypeId) (a b c : Value) (w' : World) : Prop :=
  (w'.cell? ⟨w.heap.size, 0, none⟩ = some a ∧ w'.cell? ⟨w.heap.size, 1, none⟩ = some b ∧ w'.cell? ⟨w.heap.size, 2, none⟩ = some c) ∧ Held w t #[a, b, c] w'
theorem H3.of {w w' : World} {t : TypeId} {a b c : Value} (h : Held w t #[a, b, c] w') : H3 w t a b c w' := ⟨⟨h.blk.cell 0, h.blk.cell 1, h.blk.cell 2⟩, h⟩
theorem H3.new (w : World) (t : TypeId) (a b c : Value) : H3 w t a b c (w.alloc (.cells #[a, b, c] t)) := H3.of (Held.new w t _)
theorem H3.next {w w1 w' : World} {t : TypeId} {a b c : Value} (h : H3 w t a b c w1) (hq : Below w1.heap.size w1 w') : H3 w t a b c w' := H3.of (h.2.next hq)
theorem H3.drew {w w1 : World} {t : TypeId} {a b c : Value} (h : H3 w t a b c w1) : H3 w t a b c w1.drew := H3.of h.2.drew
set_option maxHeartbeats 1600000 in
theorem build_wf (o f : Nat) (S1 S2 : ByteArray) (w : World) (h1 : S1.size = 2) (h2 : S2.size = 2) (b1 : o < 32768) (b2 : f < 65536)
    (H1 : ∀ W, Calls Tryz.prog 75 #[.int .i64 (o : Int)] W fun e w' => e = .returned (.string S1) ∧ Below W.heap.size W w')
    (H2 : ∀ W, Calls Tryz.prog 75 #[.int .i64 (f : Int)] W fun e w' => e = .returned (.string S2) ∧ Below W.heap.size W w') :
    Calls Tryz.prog 47 #[.agg #[.int .i64 (o : Int), .bool false, .int .i64 (f : Int)]] w (RS w (S1 ++ S2) 0) := by
  have G1 := Lib.hid H1
  have G2 := Lib.hid H2
  clear H1 H2
  have c1 : ¬ 9223372036854775807 < S1.size + S2.size := by omega
  have k1 : ¬ (o : Int) < 0 := by omega
  have k2 : ¬ 32767 < (o : Int) := by omega
  have k3 : ¬ (f : Int) < 0 := by omega
  have k4 : ¬ 65535 < (f : Int) := by omega
  clear h1 h2 b1 b2
  go_enter Tryz.func47, Tryz.ntmps47
  go_wp2_with fail
  have c0 := (H3.new w 34 (.int .i64 (o : Int)) (.bool false) (.int .i64 (f : Int))).drew
  unfold H3 at c0
  go_region_held3 (fun w' => (w'.cell? ⟨w.heap.size, 0, none⟩ = some (.int .i64 (o : Int)) ∧ w'.cell? ⟨w.heap.size, 1, none⟩ = some (.bool false) ∧ w'.cell? ⟨w.heap.size, 2, none⟩ = some (.int .i64 (f : Int))) ∧ Held w 34 #[.int .i64 (o : Int), .bool false, .int .i64 (f : Int)] w')
    (first | exact c0 | assumption | exact H3.next (by assumption) hq)
    (first
      | (go_at_call 75; ((with_reducible refine (G1.out _).mono ?_); rintro e w' ⟨rfl, hq⟩))
      | (go_at_call 75; ((with_reducible refine (G2.out _).mono ?_); rintro e w' ⟨rfl, hq⟩)))
  all_goals
    rename_i hH
    go_wp2
    go_ret2
    exact ⟨rfl, hH.2.below⟩
set_option maxHeartbeats 1600000 in
theorem build_wt (o f : Nat) (O : Int) (S1 S2 : ByteArray) (w : World) (h1 : S1.size = 2) (h2 : S2.size = 2) (b1 : o < 32768) (b2 : f < 65536) (hv : bits .or .i64 (o : Int) 32768 = O)
    (H1 : ∀ W, Calls Tryz.prog 75 #[.int .i64 O] W fun e w' => e = .returned (.string S1) ∧ Below W.heap.size W w')
    (H2 : ∀ W, Calls Tryz.prog 75 #[.int .i64 (f : Int)] W fun e w' => e = .returned (.string S2) ∧ Below W.heap.size W w') :
    Calls Tryz.prog 47 #[.agg #[.int .i64 (o : Int), .bool true, .int .i64 (f : Int)]] w (RS w (S1 ++ S2) 0) := by
  have G1 := Lib.hid H1
  have G2 := Lib.hid H2
  clear H1 H2
  have c1 : ¬ 9223372036854775807 < S1.size + S2.size := by omega
  have k1 : ¬ (o : Int) < 0 := by omega
  have k2 : ¬ 32767 < (o : Int) := by omega
  have k3 : ¬ (f : Int) < 0 := by omega
  have k4 : ¬ 65535 < (f : Int) := by omega
  clear h1 h2 b1 b2
  go_enter Tryz.func47, Tryz.ntmps47
  go_wp2_with fail
  have c0 := (H3.new w 34 (.int .i64 (o : Int)) (.bool true) (.int .i64 (f : Int))).drew
  unfold H3 at c0
  go_region_held3 (fun w' => (w'.cell? ⟨w.heap.size, 0, none⟩ = some (.int .i64 (o : Int)) ∧ w'.cell? ⟨w.heap.size, 1, none⟩ = some (.bool true) ∧ w'.cell? ⟨w.heap.size, 2, none⟩ = some (.int .i64 (f : Int))) ∧ Held w 34 #[.int .i64 (o : Int), .bool true, .int .i64 (f : Int)] w')
    (first | exact c0 | assumption | exact H3.next (by assumption) hq)
    (first
      | (go_at_call 75; ((with_reducible refine (G1.out _).mono ?_); rintro e w' ⟨rfl, hq⟩))
      | (go_at_call 75; ((with_reducible refine (G2.out _).mono ?_); rintro e w' ⟨rfl, hq⟩)))
  all_goals
    rename_i hH
    go_wp2
    go_ret2
    exact ⟨rfl, hH.2.below⟩
theorem conv4 (W : World) (a b c d : Int) : (convert 65 9 (.slice (some ⟨W.heap.size, 0, none⟩) 4 4)).run Tryz.prog (W.alloc (.cells #[.int .u8 a, .int .u8 b, .int .u8 c, .int .u8 d] 5)) = .ok (.string (strOfNums [a, b, c, d])) (W.alloc (.cells #[.int .u8 a, .int .u8 b, .int .u8 c, .int .u8 d] 5)) := by
  refine run_convert_bytes_arg _ 65 5 Tryz.underlying65 Tryz.underlying5 W.heap.size 0 4 4 [a, b, c, d] rfl ?_ 9 Tryz.underlying9
  intro i hi
  match i, hi with
  | 0, _ => show (W.alloc _).cell? _ = _; simp
  | 1, _ => show (W.alloc _).cell? _ = _; simp
  | 2, _ => show (W.alloc _).cell? _ = _; simp
  | 3, _ => show (W.alloc _).cell? _ = _; simp
theorem one_more (w : World) (o : Obj) : (w.alloc o).heap.size = w.heap.size + 1 := by simp
theorem rbuild_wf (o f p0 p1 p2 p3 : Int) (w : World) (S : ByteArray) (k1 : 0 ≤ o) (k2 : o ≤ 32767) (k3 : 0 ≤ f) (k4 : f ≤ 65535) (e0 : o.tmod 256 = p0) (e1 : o.tdiv 256 = p1) (e2 : f.tmod 256 = p2) (e3 : f.tdiv 256 = p3)
    (q0 : 0 ≤ p0 ∧ p0 < 256) (q1 : 0 ≤ p1 ∧ p1 < 256) (q2 : 0 ≤ p2 ∧ p2 < 256) (q3 : 0 ≤ p3 ∧ p3 < 256)
    (HS : strOfNums [p0, p1, p2, p3] = S) :
    Calls Tryz.prog 48 #[.agg #[.int .i64 o, .bool false, .int .i64 f]] w (RS w S 0) := by
  have x0 : IntKind.u8.wrap p0 = p0 := by rw [IntKind.wrap_u8]; omega
  have x1 : IntKind.u8.wrap p1 = p1 := by rw [IntKind.wrap_u8]; omega
  have x2 : IntKind.u8.wrap p2 = p2 := by rw [IntKind.wrap_u8]; omega
  have x3 : IntKind.u8.wrap p3 = p3 := by rw [IntKind.wrap_u8]; omega
  have x4 : IntKind.i64.wrap p0 = p0 := by rw [IntKind.wrap_i64]; omega
  have x5 : IntKind.i64.wrap p1 = p1 := by rw [IntKind.wrap_i64]; omega
  have x6 : IntKind.i64.wrap p2 = p2 := by rw [IntKind.wrap_i64]; omega
  have x7 : IntKind.i64.wrap p3 = p3 := by rw [IntKind.wrap_i64]; omega
  have y1 : ¬ o < 0 := by omega
  have y2 : ¬ 32767 < o := by omega
  have y3 : ¬ f < 0 := by omega
  have y4 : ¬ 65535 < f := by omega
  clear k1 k2 k3 k4 q0 q1 q2 q3
  have hcv := conv4 (w.alloc (.cells #[.int .i64 o, .bool false, .int .i64 f] 34)) p0 p1 p2 p3
  rw [one_more, HS] at hcv
  clear HS
  go_enter Tryz.func48, Tryz.ntmps48
  go_wp2_with fail
  go_ret2
  exact ⟨rfl, ba (ba (Below.refl _ _) _) _⟩
theorem rbuild_wt (o f O p0 p1 p2 p3 : Int) (w : World) (S : ByteArray) (k1 : 0 ≤ o) (k2 : o ≤ 32767) (k3 : 0 ≤ f) (k4 : f ≤ 65535) (hO : O = o + 32768) (e0 : O.tmod 256 = p0) (e1 : O.tdiv 256 = p1) (e2 : f.tmod 256 = p2) (e3 : f.tdiv 256 = p3)
    (q0 : 0 ≤ p0 ∧ p0 < 256) (q1 : 0 ≤ p1 ∧ p1 < 256) (q2 : 0 ≤ p2 ∧ p2 < 256) (q3 : 0 ≤ p3 ∧ p3 < 256)
    (HS : strOfNums [p0, p1, p2, p3] = S) :
    Calls Tryz.prog 48 #[.agg #[.int .i64 o, .bool true, .int .i64 f]] w (RS w S 0) := by
  have x0 : IntKind.u8.wrap p0 = p0 := by rw [IntKind.wrap_u8]; omega
  have x1 : IntKind.u8.wrap p1 = p1 := by rw [IntKind.wrap_u8]; omega
  have x2 : IntKind.u8.wrap p2 = p2 := by rw [IntKind.wrap_u8]; omega
  have x3 : IntKind.u8.wrap p3 = p3 := by rw [IntKind.wrap_u8]; omega
  have x4 : IntKind.i64.wrap p0 = p0 := by rw [IntKind.wrap_i64]; omega
  have x5 : IntKind.i64.wrap p1 = p1 := by rw [IntKind.wrap_i64]; omega
  have x6 : IntKind.i64.wrap p2 = p2 := by rw [IntKind.wrap_i64]; omega
  have x7 : IntKind.i64.wrap p3 = p3 := by rw [IntKind.wrap_i64]; omega
  have x8 : IntKind.i64.wrap (o + 32768) = O := by rw [IntKind.wrap_i64]; omega
  have y1 : ¬ o < 0 := by omega
  have y2 : ¬ 32767 < o := by omega
  have y3 : ¬ f < 0 := by omega
  have y4 : ¬ 65535 < f := by omega
  clear k1 k2 k3 k4 q0 q1 q2 q3
  clear hO
  have hcv := conv4 (w.alloc (.cells #[.int .i64 o, .bool true, .int .i64 f] 34)) p0 p1 p2 p3
  rw [one_more, HS] at hcv
  clear HS
  go_enter Tryz.func48, Tryz.ntmps48
  go_wp2_with fail
  go_ret2
  exact ⟨rfl, ba (ba (Below.refl _ _) _) _⟩
theorem of_list {s t : ByteArray} (h : s.data.toList = t.data.toList) : s = t := by
  obtain ⟨a⟩ := s
  obtain ⟨b⟩ := t
  exact congrArg ByteArray.mk (Array.ext' h)
/-- an event's bytes -/
def evB (O F : Nat) : ByteArray := pb O 2 ++ pb F 2
theorem evB_list (O F : Nat) : (evB O F).data.toList = [UInt8.ofNat O, UInt8.ofNat (O / 256), UInt8.ofNat F, UInt8.ofNat (F / 256)] := by
  unfold evB
  simp only [ByteArray.data_append, Array.toList_append, pb_list]
  rfl
theorem ofNat_mod (x : Nat) : UInt8.ofNat (x % 256) = UInt8.ofNat x := by
  apply UInt8.toNat_inj.1
  rw [UInt8.toNat_ofNat', UInt8.toNat_ofNat']; omega
theorem evB_nums (O F : Nat) : strOfNums [((O % 256 : Nat) : Int), ((O / 256 : Nat) : Int), ((F % 256 : Nat) : Int), ((F / 256 : Nat) : Int)] = evB O F := by
  refine of_list ?_
  rw [evB_list, strOfNums_data]
  show [UInt8.ofNat (O % 256), UInt8.ofNat (O / 256), UInt8.ofNat (F % 256), UInt8.ofNat (F / 256)] = _
  rw [ofNat_mod, ofNat_mod]
/-- may an event be? -/
def isEv (o f : Int) : Prop := (0 ≤ o ∧ o ≤ 32767) ∧ (0 ≤ f ∧ f ≤ 65535)
instance (o f : Int) : Decidable (isEv o f) := by unfold isEv; infer_instance
def buS (o : Int) (v : Bool) (f : Int) : ByteArray := if isEv o f then evB (o.toNat + if v then 32768 else 0) f.toNat else ⟨#[]⟩
def buE (o f : Int) : Int := if isEv o f then 0 else 1
theorem build_ok (o f : Nat) (v : Bool) (ho : o ≤ 32767) (hf : f ≤ 65535) (w : World) : Calls Tryz.prog 47 #[.agg #[.int .i64 (o : Int), .bool v, .int .i64 (f : Int)]] w (RS w (evB (o + if v then 32768 else 0) f) 0) := by
  cases v
  · exact build_wf o f (pb o 2) (pb f 2) w (pb_size _ _) (pb_size _ _) (by omega) (by omega) (fun W => sput_any o W (by omega)) (fun W => sput_any f W (by omega))
  · exact build_wt o f _ (pb (o + 32768) 2) (pb f 2) w (pb_size _ _) (pb_size _ _) (by omega) (by omega) (top_or o (by omega)) (fun W => sput_any (o + 32768) W (by omega)) (fun W => sput_any f W (by omega))
theorem rbuild_ok (o f : Nat) (v : Bool) (ho : o ≤ 32767) (hf : f ≤ 65535) (w : World) : Calls Tryz.prog 48 #[.agg #[.int .i64 (o : Int), .bool v, .int .i64 (f : Int)]] w (RS w (evB (o + if v then 32768 else 0) f) 0) := by
  have m (x : Nat) : (x : Int).tmod 256 = ((x % 256 : Nat) : Int) := by rw [Int.tmod_eq_emod_of_nonneg (by omega)]; omega
  have d (x : Nat) : (x : Int).tdiv 256 = ((x / 256 : Nat) : Int) := by rw [Int.tdiv_eq_ediv_of_nonneg (by omega)]; omega
  cases v
  · exact rbuild_wf o f _ _ _ _ w _ (by omega) (by omega) (by omega) (by omega) (m o) (d o) (m f) (d f) (by omega) (by omega) (by omega) (by omega) (evB_nums o f)
  · exact rbuild_wt o f ((o + 32768 : Nat) : Int) _ _ _ _ w _ (by omega) (by omega) (by omega) (by omega) (by omega) (m _) (d _) (m f) (d f) (by omega) (by omega) (by omega) (by omega) (evB_nums (o + 32768) f)
theorem build_any (o f : Int) (v : Bool) (w : World) : Calls Tryz.prog 47 #[.agg #[.int .i64 o, .bool v, .int .i64 f]] w (RS w (buS o v f) (buE o f)) := by
  by_cases h : isEv o f
  · rw [buS, buE, if_pos h, if_pos h]
    obtain ⟨a, rfl⟩ := Int.eq_ofNat_of_zero_le h.1.1
    obtain ⟨b, rfl⟩ := Int.eq_ofNat_of_zero_le h.2.1
    exact build_ok a b v (by have := h.1.2; omega) (by have := h.2.2; omega) w
  · rw [buS, buE, if_neg h, if_neg h]
    by_cases h0 : o < 0
    · exact build_b0 o f v w h0
    by_cases h1 : 32767 < o
    · exact build_b1 o f v w h0 h1
    by_cases h2 : f < 0
    · exact build_b2 o f v w h0 h1 h2
    by_cases h3 : 65535 < f
    · exact build_b3 o f v w h0 h1 h2 h3
    · exact absurd ⟨⟨by omega, by omega⟩, by omega, by omega⟩ h
theorem rbuild_any (o f : Int) (v : Bool) (w : World) : Calls Tryz.prog 48 #[.agg #[.int .i64 o, .bool v, .int .i64 f]] w (RS w (buS o v f) (buE o f)) := by
  by_cases h : isEv o f
  · rw [buS, buE, if_pos h, if_pos h]
    obtain ⟨a, rfl⟩ := Int.eq_ofNat_of_zero_le h.1.1
    obtain ⟨b, rfl⟩ := Int.eq_ofNat_of_zero_le h.2.1
    exact rbuild_ok a b v (by have := h.1.2; omega) (by have := h.2.2; omega) w
  · rw [buS, buE, if_neg h, if_neg h]
    by_cases h0 : o < 0
    · exact rbuild_b0 o f v w h0
    by_cases h1 : 32767 < o
    · exact rbuild_b1 o f v w h0 h1
    by_cases h2 : f < 0
    · exact rbuild_b2 o f v w h0 h1 h2
    by_cases h3 : 65535 < f
    · exact rbuild_b3 o f v w h0 h1 h2 h3
    · exact absurd ⟨⟨by omega, by omega⟩, by omega, by omega⟩ h
/-- what is built is parsed as it was -/
theorem parse_evB (o f : Nat) (v : Bool) (ho : o ≤ 32767) (hf : f ≤ 65535) :
    (evB (o + if v then 32768 else 0) f).size = 4 ∧ paO (evB (o + if v then 32768 else 0) f) = o ∧ paW (evB (o + if v then 32768 else 0) f) = v ∧ paF (evB (o + if v then 32768 else 0) f) = f ∧ paE (evB (o + if v then 32768 else 0) f) = 0 := by
  generalize hO : (o + if v then 32768 else 0) = O
  have h1 : O % 32768 = o ∧ decide (32768 ≤ O) = v ∧ O < 65536 := by
    subst hO
    cases v
    · exact ⟨by simp; omega, by simp; omega, by simp; omega⟩
    · exact ⟨by simp; omega, by simp, by simp; omega⟩
  obtain ⟨h1, h2, h3⟩ := h1
  have e : evB O f = ⟨#[UInt8.ofNat O, UInt8.ofNat (O / 256), UInt8.ofNat f, UInt8.ofNat (f / 256)]⟩ := of_list (evB_list O f)
  have hs : (evB O f).size = 4 := by rw [e]; rfl
  obtain ⟨g1, g2⟩ := gn_four (UInt8.ofNat O) (UInt8.ofNat (O / 256)) (UInt8.ofNat f) (UInt8.ofNat (f / 256))
  rw [← e] at g1 g2
  simp only [UInt8.toNat_ofNat'] at g1 g2
  refine ⟨hs, ?_, ?_, ?_, ?_⟩
  · rw [paO, if_pos hs, g1]; omega
  · rw [paW, if_pos hs, g1, ← h2]; congr 1; exact propext ⟨fun _ => by omega, fun _ => by omega⟩
  · rw [paF, if_pos hs, g2]; omega
  · rw [paE, if_pos hs]
/-- what is parsed is built as it was -/
theorem evB_parse (s : ByteArray) (h : s.size = 4) : isEv (paO s) (paF s) ∧ buS (paO s) (paW s) (paF s) = s := by
  obtain ⟨a, b, c, d, rfl⟩ := four s h
  obtain ⟨g1, g2⟩ := gn_four a b c d
  have a1 := a.toNat_lt
  have a2 := b.toNat_lt
  have a3 := c.toNat_lt
  have a4 := d.toNat_lt
  have e : isEv (paO ⟨#[a, b, c, d]⟩) (paF ⟨#[a, b, c, d]⟩) := by
    rw [paO, paF, if_pos h, if_pos h, g1, g2]
    exact ⟨⟨by omega, by omega⟩, by omega, by omega⟩
  refine ⟨e, ?_⟩
  rw [buS, if_pos e, paO, paW, paF, if_pos h, if_pos h, if_pos h, g1, g2]
  have k : (((a.toNat + 256 * b.toNat) % 32768 : Nat) : Int).toNat + (if decide (32768 ≤ a.toNat + 256 * b.toNat) = true then 32768 else 0) = a.toNat + 256 * b.toNat := by
    by_cases q : 32768 ≤ a.toNat + 256 * b.toNat
    · rw [decide_eq_true q, if_pos rfl]; omega
    · rw [decide_eq_false q, if_neg (by decide)]; omega
  rw [k]
  refine of_list ?_
  rw [evB_list]
  have m (x y : UInt8) : UInt8.ofNat (x.toNat + 256 * y.toNat) = x := by
    apply UInt8.toNat_inj.1
    have := x.toNat_lt
    rw [UInt8.toNat_ofNat']; omega
  have q (x y : UInt8) : UInt8.ofNat ((x.toNat + 256 * y.toNat) / 256) = y := by
    apply UInt8.toNat_inj.1
    have := x.toNat_lt
    have := y.toNat_lt
    rw [UInt8.toNat_ofNat']; omega
  show [UInt8.ofNat (a.toNat + 256 * b.toNat), UInt8.ofNat ((a.toNat + 256 * b.toNat) / 256), UInt8.ofNat (c.toNat + 256 * d.toNat), UInt8.ofNat ((c.toNat + 256 * d.toNat) / 256)] = [a, b, c, d]
  rw [m, q, m, q]
end Go.Proofs.YtbpgblmhacpjlaaGreat.Sp
