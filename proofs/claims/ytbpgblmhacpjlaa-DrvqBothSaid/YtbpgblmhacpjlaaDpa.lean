/-
  What desc.Parse and the document's Parse answer, for every string of at most 2 to the 48 bytes.
-/
import Derived.Test.YtbpgblmhacpjlaaDbd
namespace Go.Proofs.Ytbpgblmhacpjlaa
open Go.RowKit

/-- the number of n bytes of s -/
def gn (s : ByteArray) (a n : Nat) : Nat := val (cutl s a n)
theorem gn_lt (s : ByteArray) (a n : Nat) (h : a + n ≤ s.size) : gn s a n < 256 ^ n := by
  have := val_lt (cutl s a n)
  rwa [cutl_length s a n h] at this
theorem getV_gn (s : ByteArray) (a n : Nat) (h1 : 1 ≤ n) (h2 : n ≤ 8) (h : a + n ≤ s.size) : getV s a n false = (gn s a n : Int) ∧ getE s a n = 0 := by
  have c : 1 ≤ (n : Int) ∧ (n : Int) ≤ 8 ∧ 0 ≤ (a : Int) ∧ (a : Int) + n ≤ s.size := ⟨by omega, by omega, by omega, by omega⟩
  constructor
  · rw [getV, if_pos c]; rfl
  · rw [getE, if_pos ⟨c.1, c.2.1⟩, if_pos c.2.2]
theorem get_gn (s : ByteArray) (a n : Nat) (h1 : 1 ≤ n) (h2 : n ≤ 8) (h : a + n ≤ s.size) (hs : s.size ≤ maxLen) (w : World) :
    Calls Try.prog 84 #[.string s, .int .i64 (a : Int), .int .i64 (n : Int)] w fun e w' => e = .returned (.int .u64 (gn s a n : Int)) ∧ Below w.heap.size w w' := by
  have := dget_any s a n w hs
  rwa [(getV_gn s a n h1 h2 h).1] at this
theorem parse_results (f : Func) (w : World) (tmps : Array Value) (gf : Nat) {n : Int} (hf : f.results = Try.f68.results) (h2 : tmps[2]?.getD undef = .pointer (some ⟨gf, 0, none⟩)) (h3 : tmps[3]?.getD undef = .int .i64 n) (a b c d : Value)
    (hF : Blk w gf 100 #[a, b, c, d]) : (results f tmps).run Try.prog w = .ok (.tuple #[.agg #[a, b, c, d], .int .i64 n]) w := by
  have c0 := hF.cell 0
  have c1 := hF.cell 1
  have c2 := hF.cell 2
  have c3 := hF.cell 3
  simp only [List.getElem?_toArray, List.getElem?_cons_zero, List.getElem?_cons_succ] at c0 c1 c2 c3
  simp [results, hf, Try.results68, go_sem, h2, h3, c0, c1, c2, c3]
theorem Held.set4 {w w1 : World} {t : TypeId} {a0 a1 a2 a3 : Value} (h : Held w t #[a0, a1, a2, a3] w1) (b0 b1 b2 b3 : Value) :
    Held w t #[b0, b1, b2, b3] ((((w1.setCell ⟨w.heap.size, 0, none⟩ b0).setCell ⟨w.heap.size, 1, none⟩ b1).setCell ⟨w.heap.size, 2, none⟩ b2).setCell ⟨w.heap.size, 3, none⟩ b3) := by
  refine ⟨?_, (((h.below.setCell (Nat.le_refl _) _).setCell (Nat.le_refl _) _).setCell (Nat.le_refl _) _).setCell (Nat.le_refl _) _⟩
  have := (((h.blk.put 0 b0).put 1 b1).put 2 b2).put 3 b3
  simpa using this
def desV (A L I F : Int) : Value := .agg #[.int .u64 A, .int .u32 L, .int .i64 I, .int .i64 F]
theorem parse_walk (s : ByteArray) (A L I F : Nat) (hs : s.size = 16) (b1 : L < 4294967296) (b2 : I < 65536) (b3 : F < 65536)
    (H1 : ∀ W, Calls Try.prog 84 #[.string s, .int .i64 0, .int .i64 8] W fun e w' => e = .returned (.int .u64 (A : Int)) ∧ Below W.heap.size W w')
    (H2 : ∀ W, Calls Try.prog 84 #[.string s, .int .i64 8, .int .i64 4] W fun e w' => e = .returned (.int .u64 (L : Int)) ∧ Below W.heap.size W w')
    (H3 : ∀ W, Calls Try.prog 84 #[.string s, .int .i64 12, .int .i64 2] W fun e w' => e = .returned (.int .u64 (I : Int)) ∧ Below W.heap.size W w')
    (H4 : ∀ W, Calls Try.prog 84 #[.string s, .int .i64 14, .int .i64 2] W fun e w' => e = .returned (.int .u64 (F : Int)) ∧ Below W.heap.size W w') (w : World) :
    Calls Try.prog 68 #[.string s] w fun e w' => e = .returned (.tuple #[.agg #[.int .u64 (A : Int), .int .u32 (L : Int), .int .i64 (I : Int), .int .i64 (F : Int)], .int .i64 0]) ∧ Below w.heap.size w w' := by
  have G1 := Lib.hid H1
  have G2 := Lib.hid H2
  have G3 := Lib.hid H3
  have G4 := Lib.hid H4
  clear H1 H2 H3 H4
  have v1 : IntKind.u32.wrap (L : Int) = L := by rw [IntKind.wrap_u32]; omega
  have v2 : IntKind.i64.wrap (I : Int) = I := by rw [IntKind.wrap_i64]; omega
  have v3 : IntKind.i64.wrap (F : Int) = F := by rw [IntKind.wrap_i64]; omega
  have hc : ((s.size : Int) != 16) = false := by rw [hs]; rfl
  clear b1 b2 b3 hs
  go_enter Try.func68, Try.ntmps68
  go_wp2_with fail
  refine (G1.out _).mono ?_
  rintro e w1 ⟨rfl, hq⟩
  have e1 := (Held.new w 100 #[.int .u64 0, .int .u32 0, .int .i64 0, .int .i64 0]).next hq
  clear hq
  go_wp2_with fail
  refine (G2.out _).mono ?_
  rintro e w2 ⟨rfl, hq⟩
  have e2 := e1.next hq
  clear hq e1
  go_wp2_with fail
  refine (G3.out _).mono ?_
  rintro e w3 ⟨rfl, hq⟩
  have e3 := e2.next hq
  clear hq e2
  go_wp2_with fail
  refine (G4.out _).mono ?_
  rintro e w4 ⟨rfl, hq⟩
  have e4 := e3.next hq
  clear hq e3
  have z0 := e4.blk.frozen 0
  have z1 := e4.blk.frozen 1
  have z2 := e4.blk.frozen 2
  have z3 := e4.blk.frozen 3
  have c0 := e4.blk.cell 0
  have c1 := e4.blk.cell 1
  have c2 := e4.blk.cell 2
  have c3 := e4.blk.cell 3
  simp only [List.getElem?_toArray, List.getElem?_cons_zero, List.getElem?_cons_succ] at c0 c1 c2 c3
  have hZ := e4.set4 (.int .u64 (A : Int)) (.int .u32 (L : Int)) (.int .i64 (I : Int)) (.int .i64 (F : Int))
  go_wp2_with fail
  refine bodyPost_ret (v := .tuple #[.agg #[.int .u64 (A : Int), .int .u32 (L : Int), .int .i64 (I : Int), .int .i64 (F : Int)], .int .i64 0]) (parse_results _ _ _ w.heap.size rfl rfl rfl _ _ _ _ ?_) rfl ⟨rfl, ?_⟩
  · exact hZ.blk
  · exact hZ.below
theorem parse_bad (s : ByteArray) (hs : s.size ≠ 16) (w : World) :
    Calls Try.prog 68 #[.string s] w fun e w' => e = .returned (.tuple #[.agg #[.int .u64 0, .int .u32 0, .int .i64 0, .int .i64 0], .int .i64 1]) ∧ Below w.heap.size w w' := by
  have hc : ((s.size : Int) != 16) = true := by simp; omega
  have e1 := Held.new w 100 #[.int .u64 0, .int .u32 0, .int .i64 0, .int .i64 0]
  go_enter Try.func68, Try.ntmps68
  go_wp2_with fail
  refine bodyPost_ret (v := .tuple #[.agg #[.int .u64 0, .int .u32 0, .int .i64 0, .int .i64 0], .int .i64 1]) (parse_results _ _ _ w.heap.size rfl rfl rfl _ _ _ _ ?_) rfl ⟨rfl, ?_⟩
  · exact e1.blk
  · exact e1.below
theorem parse_ok (s : ByteArray) (hs : s.size = 16) (w : World) :
    Calls Try.prog 68 #[.string s] w fun e w' => e = .returned (.tuple #[.agg #[.int .u64 (gn s 0 8 : Int), .int .u32 (gn s 8 4 : Int), .int .i64 (gn s 12 2 : Int), .int .i64 (gn s 14 2 : Int)], .int .i64 0]) ∧ Below w.heap.size w w' := by
  have hm : s.size ≤ maxLen := by unfold maxLen; omega
  exact parse_walk s _ _ _ _ hs (gn_lt s 8 4 (by omega)) (gn_lt s 12 2 (by omega)) (gn_lt s 14 2 (by omega))
    (fun W => get_gn s 0 8 (by decide) (by decide) (by omega) hm W) (fun W => get_gn s 8 4 (by decide) (by decide) (by omega) hm W)
    (fun W => get_gn s 12 2 (by decide) (by decide) (by omega) hm W) (fun W => get_gn s 14 2 (by decide) (by decide) (by omega) hm W) w
end Go.Proofs.Ytbpgblmhacpjlaa
