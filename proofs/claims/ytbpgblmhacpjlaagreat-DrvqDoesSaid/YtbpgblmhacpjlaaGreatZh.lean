/-
  Descriptors taken apart.
-/
import Derived.Test.YtbpgblmhacpjlaaGreatZa
import Derived.Test.YtbpgblmhacpjlaaGreatZg
namespace Go.Proofs.YtbpgblmhacpjlaaGreat
open Go.RowKit

set_option maxHeartbeats 400000 in
theorem getr_big (s : ByteArray) (a n : Nat) (w : World) (hs : s.size ≤ maxLen) (h1 : 1 ≤ n) (h2 : n ≤ 8) (h4 : a + n ≤ s.size) :
    Calls Tryz.prog 70 #[.string s, .int .i64 a, .int .i64 n, .bool true] w fun e w' => e = .returned (.tuple #[.int .u64 (dec (cutl s a n) true), .int .i64 0]) ∧ w = w' := by
  unfold maxLen at hs
  go_enter Tryz.func70, Tryz.ntmps70
  go_wp2
  go_loop [10, 11] (fun v i => ∃ k : Nat, k ≤ n ∧ i = .int .i64 k ∧ v = .int .u64 (accR (cutl s a n) n k true)) (fun _ i => n - (intOf i).toNat)
  case atStart => exact ⟨0, Nat.zero_le _, rfl, by rw [accR_zero _ _ _ (cutl_length s a n h4)]; rfl⟩
  case round =>
    obtain ⟨k, hk, rfl, rfl⟩ := hrel
    by_cases hlt : k < n
    · have hr := accR_round s a n k true h4 hlt
      have hl := accR_lt (cutl s a n) n k true (cutl_length s a n h4) hlt h2
      have hc : s[a + k].toNat < 256 := s[a + k].toNat_lt
      have HR := Lib.hid hr
      clear hr
      go_wp2
      go_round
      case rel => exact ⟨k + 1, by omega, by go_num, by rw [HR.out]; go_num⟩
      case measure => simp [intOf]; omega
    · go_wp2
      go_ret2
      obtain rfl : k = n := by omega
      rw [accR_all _ _ _ (cutl_length s a k h4)]
      exact ⟨rfl, rfl⟩
set_option maxHeartbeats 400000 in
theorem getr_low (s : ByteArray) (a n : Nat) (w : World) (hs : s.size ≤ maxLen) (h1 : 1 ≤ n) (h2 : n ≤ 8) (h4 : a + n ≤ s.size) :
    Calls Tryz.prog 70 #[.string s, .int .i64 a, .int .i64 n, .bool false] w fun e w' => e = .returned (.tuple #[.int .u64 (dec (cutl s a n) false), .int .i64 0]) ∧ w = w' := by
  unfold maxLen at hs
  go_enter Tryz.func70, Tryz.ntmps70
  go_wp2
  go_loop [10, 11] (fun v i => ∃ k : Nat, k ≤ n ∧ i = .int .i64 k ∧ v = .int .u64 (accR (cutl s a n) n k false)) (fun _ i => n - (intOf i).toNat)
  case atStart => exact ⟨0, Nat.zero_le _, rfl, by rw [accR_zero _ _ _ (cutl_length s a n h4)]; rfl⟩
  case round =>
    obtain ⟨k, hk, rfl, rfl⟩ := hrel
    by_cases hlt : k < n
    · have hr := accR_round s a n k false h4 hlt
      have hl := accR_lt (cutl s a n) n k false (cutl_length s a n h4) hlt h2
      obtain ⟨m, hm⟩ : ∃ m : Nat, m = a + (n - 1 - k) := ⟨_, rfl⟩
      have hml : m < s.size := by omega
      have em : (a : Int) + n - 1 - k = m := by omega
      have hc : s[m].toNat < 256 := s[m].toNat_lt
      have HR := Lib.hid (show accR (cutl s a n) n (k + 1) false = accR (cutl s a n) n k false * 256 + s[m].toNat by subst hm; exact hr)
      clear hr hm
      go_wp2
      go_round
      case rel => exact ⟨k + 1, by omega, by go_num, by rw [HR.out]; go_num⟩
      case measure => simp [intOf]; omega
    · go_wp2
      go_ret2
      obtain rfl : k = n := by omega
      rw [accR_all _ _ _ (cutl_length s a k h4)]
      exact ⟨rfl, rfl⟩
theorem getr_size (s : ByteArray) (a n : Int) (big : Bool) (w : World) (h : n < 1 ∨ 8 < n) :
    Calls Tryz.prog 70 #[.string s, .int .i64 a, .int .i64 n, .bool big] w fun e w' => e = .returned (.tuple #[.int .u64 0, .int .i64 1]) ∧ w = w' := by
  rcases h with h | h
  · go_enter Tryz.func70, Tryz.ntmps70
    go_wp2
    go_ret2
    exact ⟨rfl, rfl⟩
  · have h' : ¬ n < 1 := by omega
    go_enter Tryz.func70, Tryz.ntmps70
    go_wp2
    go_ret2
    exact ⟨rfl, rfl⟩
theorem getr_at (s : ByteArray) (a n : Int) (big : Bool) (w : World) (hs : s.size ≤ maxLen) (h1 : 1 ≤ n) (h2 : n ≤ 8) (h : a < 0 ∨ (s.size : Int) < a + n) :
    Calls Tryz.prog 70 #[.string s, .int .i64 a, .int .i64 n, .bool big] w fun e w' => e = .returned (.tuple #[.int .u64 0, .int .i64 10]) ∧ w = w' := by
  unfold maxLen at hs
  by_cases h0 : a < 0
  · clear h
    go_enter Tryz.func70, Tryz.ntmps70
    go_wp2
    go_ret2
    exact ⟨rfl, rfl⟩
  · have h3 : (s.size : Int) - n < a := by omega
    clear h
    go_enter Tryz.func70, Tryz.ntmps70
    go_wp2
    go_ret2
    exact ⟨rfl, rfl⟩
theorem getr_any (s : ByteArray) (a n : Int) (big : Bool) (w : World) (hs : s.size ≤ maxLen) :
    Calls Tryz.prog 70 #[.string s, .int .i64 a, .int .i64 n, .bool big] w fun e w' => e = .returned (.tuple #[.int .u64 (getV s a n big), .int .i64 (getE s a n)]) ∧ w = w' := by
  by_cases h1 : 1 ≤ n ∧ n ≤ 8
  · by_cases h2 : 0 ≤ a ∧ a + n ≤ s.size
    · obtain ⟨k, rfl⟩ := Int.eq_ofNat_of_zero_le (show 0 ≤ n by omega)
      obtain ⟨b, rfl⟩ := Int.eq_ofNat_of_zero_le h2.1
      have hv : getV s b k big = (dec (cutl s b k) big : Int) := by rw [getV, if_pos ⟨h1.1, h1.2, h2.1, h2.2⟩]; rfl
      have he : getE s b k = 0 := by rw [getE, if_pos h1, if_pos h2]
      rw [hv, he]
      cases big
      · exact getr_low s b k w hs (by omega) (by omega) (by omega)
      · exact getr_big s b k w hs (by omega) (by omega) (by omega)
    · refine (getr_at s a n big w hs h1.1 h1.2 (by omega)).mono fun e w' ⟨he, hw⟩ => ⟨?_, hw⟩
      rw [he, getV, getE, if_neg (by omega), if_pos h1, if_neg h2]
  · refine (getr_size s a n big w (by omega)).mono fun e w' ⟨he, hw⟩ => ⟨?_, hw⟩
    rw [he, getV, getE, if_neg (by omega), if_neg h1]
end Go.Proofs.YtbpgblmhacpjlaaGreat
namespace Go.Proofs.YtbpgblmhacpjlaaGreat
open Go.RowKit

/-- the number of n bytes of s -/
def gn (s : ByteArray) (a n : Nat) : Nat := val (cutl s a n)
theorem gn_lt (s : ByteArray) (a n : Nat) (h : a + n ≤ s.size) : gn s a n < 256 ^ n := by
  have := val_lt (cutl s a n)
  rwa [cutl_length s a n h] at this
theorem getV_gn (s : ByteArray) (a n : Nat) (h1 : 1 ≤ n) (h2 : n ≤ 8) (h : a + n ≤ s.size) : getV s a n false = (gn s a n : Int) ∧ getE s a n = 0 := by
  have c : 1 ≤ (n : Int) ∧ (n : Int) ≤ 8 ∧ 0 ≤ (a : Int) ∧ (a : Int) + n ≤ s.size := ⟨by omega, by omega, by omega, by omega⟩
  constructor
  · rw [getV, if_pos c]; rfl
  · rw [getE, if_pos ⟨c.1, c.2.1⟩, if_pos c.2.2]
theorem get_gn (s : ByteArray) (a n : Nat) (h1 : 1 ≤ n) (h2 : n ≤ 8) (h : a + n ≤ s.size) (hs : s.size ≤ maxLen) (w : World) :
    Calls Tryz.prog 86 #[.string s, .int .i64 (a : Int), .int .i64 (n : Int)] w fun e w' => e = .returned (.int .u64 (gn s a n : Int)) ∧ Below w.heap.size w w' := by
  have := dget_any s a n w hs
  rwa [(getV_gn s a n h1 h2 h).1] at this
theorem getr_gn (s : ByteArray) (a n : Nat) (h1 : 1 ≤ n) (h2 : n ≤ 8) (h : a + n ≤ s.size) (hs : s.size ≤ maxLen) (w : World) :
    Calls Tryz.prog 70 #[.string s, .int .i64 (a : Int), .int .i64 (n : Int), .bool false] w fun e w' => e = .returned (.tuple #[.int .u64 (gn s a n : Int), .int .i64 0]) ∧ w = w' := by
  have := getr_any s a n false w hs
  rwa [(getV_gn s a n h1 h2 h).1, (getV_gn s a n h1 h2 h).2] at this
theorem parse_results (f : Func) (w : World) (tmps : Array Value) (gf : Nat) {n : Int} (hf : f.results = Tryz.f68.results) (h2 : tmps[2]?.getD undef = .pointer (some ⟨gf, 0, none⟩)) (h3 : tmps[3]?.getD undef = .int .i64 n) (a b c d : Value)
    (hF : Blk w gf 89 #[a, b, c, d]) : (results f tmps).run Tryz.prog w = .ok (.tuple #[.agg #[a, b, c, d], .int .i64 n]) w := by
  have c0 := hF.cell 0
  have c1 := hF.cell 1
  have c2 := hF.cell 2
  have c3 := hF.cell 3
  simp only [List.getElem?_toArray, List.getElem?_cons_zero, List.getElem?_cons_succ] at c0 c1 c2 c3
  simp [results, hf, Tryz.results68, go_sem, h2, h3, c0, c1, c2, c3]
theorem Held.set4 {w w1 : World} {t : TypeId} {a0 a1 a2 a3 : Value} (h : Held w t #[a0, a1, a2, a3] w1) (b0 b1 b2 b3 : Value) :
    Held w t #[b0, b1, b2, b3] ((((w1.setCell ⟨w.heap.size, 0, none⟩ b0).setCell ⟨w.heap.size, 1, none⟩ b1).setCell ⟨w.heap.size, 2, none⟩ b2).setCell ⟨w.heap.size, 3, none⟩ b3) := by
  refine ⟨?_, (((h.below.setCell (Nat.le_refl _) _).setCell (Nat.le_refl _) _).setCell (Nat.le_refl _) _).setCell (Nat.le_refl _) _⟩
  have := (((h.blk.put 0 b0).put 1 b1).put 2 b2).put 3 b3
  simpa using this
def desV (A L I F : Int) : Value := .agg #[.int .u64 A, .int .u32 L, .int .i64 I, .int .i64 F]
theorem parse_walk (s : ByteArray) (A L I F : Nat) (hs : s.size = 16) (b1 : L < 4294967296) (b2 : I < 65536) (b3 : F < 65536)
    (H1 : ∀ W, Calls Tryz.prog 86 #[.string s, .int .i64 0, .int .i64 8] W fun e w' => e = .returned (.int .u64 (A : Int)) ∧ Below W.heap.size W w')
    (H2 : ∀ W, Calls Tryz.prog 86 #[.string s, .int .i64 8, .int .i64 4] W fun e w' => e = .returned (.int .u64 (L : Int)) ∧ Below W.heap.size W w')
    (H3 : ∀ W, Calls Tryz.prog 86 #[.string s, .int .i64 12, .int .i64 2] W fun e w' => e = .returned (.int .u64 (I : Int)) ∧ Below W.heap.size W w')
    (H4 : ∀ W, Calls Tryz.prog 86 #[.string s, .int .i64 14, .int .i64 2] W fun e w' => e = .returned (.int .u64 (F : Int)) ∧ Below W.heap.size W w') (w : World) :
    Calls Tryz.prog 68 #[.string s] w fun e w' => e = .returned (.tuple #[.agg #[.int .u64 (A : Int), .int .u32 (L : Int), .int .i64 (I : Int), .int .i64 (F : Int)], .int .i64 0]) ∧ Below w.heap.size w w' := by
  have G1 := Lib.hid H1
  have G2 := Lib.hid H2
  have G3 := Lib.hid H3
  have G4 := Lib.hid H4
  clear H1 H2 H3 H4
  have v1 : IntKind.u32.wrap (L : Int) = L := by rw [IntKind.wrap_u32]; omega
  have v2 : IntKind.i64.wrap (I : Int) = I := by rw [IntKind.wrap_i64]; omega
  have v3 : IntKind.i64.wrap (F : Int) = F := by rw [IntKind.wrap_i64]; omega
  have hc : ((s.size : Int) != 16) = false := by rw [hs]; rfl
  clear b1 b2 b3 hs
  go_enter Tryz.func68, Tryz.ntmps68
  go_wp2_with fail
  refine (G1.out _).mono ?_
  rintro e w1 ⟨rfl, hq⟩
  have e1 := (Held.new w 89 #[.int .u64 0, .int .u32 0, .int .i64 0, .int .i64 0]).next hq
  clear hq
  go_wp2_with fail
  refine (G2.out _).mono ?_
  rintro e w2 ⟨rfl, hq⟩
  have e2 := e1.next hq
  clear hq e1
  go_wp2_with fail
  refine (G3.out _).mono ?_
  rintro e w3 ⟨rfl, hq⟩
  have e3 := e2.next hq
  clear hq e2
  go_wp2_with fail
  refine (G4.out _).mono ?_
  rintro e w4 ⟨rfl, hq⟩
  have e4 := e3.next hq
  clear hq e3
  have z0 := e4.blk.frozen 0
  have z1 := e4.blk.frozen 1
  have z2 := e4.blk.frozen 2
  have z3 := e4.blk.frozen 3
  have c0 := e4.blk.cell 0
  have c1 := e4.blk.cell 1
  have c2 := e4.blk.cell 2
  have c3 := e4.blk.cell 3
  simp only [List.getElem?_toArray, List.getElem?_cons_zero, List.getElem?_cons_succ] at c0 c1 c2 c3
  have hZ := e4.set4 (.int .u64 (A : Int)) (.int .u32 (L : Int)) (.int .i64 (I : Int)) (.int .i64 (F : Int))
  go_wp2_with fail
  refine bodyPost_ret (v := .tuple #[.agg #[.int .u64 (A : Int), .int .u32 (L : Int), .int .i64 (I : Int), .int .i64 (F : Int)], .int .i64 0]) (parse_results _ _ _ w.heap.size rfl rfl rfl _ _ _ _ ?_) rfl ⟨rfl, ?_⟩
  · exact hZ.blk
  · exact hZ.below
theorem parse_bad (s : ByteArray) (hs : s.size ≠ 16) (w : World) :
    Calls Tryz.prog 68 #[.string s] w fun e w' => e = .returned (.tuple #[.agg #[.int .u64 0, .int .u32 0, .int .i64 0, .int .i64 0], .int .i64 1]) ∧ Below w.heap.size w w' := by
  have hc : ((s.size : Int) != 16) = true := by simp; omega
  have e1 := Held.new w 89 #[.int .u64 0, .int .u32 0, .int .i64 0, .int .i64 0]
  go_enter Tryz.func68, Tryz.ntmps68
  go_wp2_with fail
  refine bodyPost_ret (v := .tuple #[.agg #[.int .u64 0, .int .u32 0, .int .i64 0, .int .i64 0], .int .i64 1]) (parse_results _ _ _ w.heap.size rfl rfl rfl _ _ _ _ ?_) rfl ⟨rfl, ?_⟩
  · exact e1.blk
  · exact e1.below
theorem rparse_walk (s : ByteArray) (A L I F : Nat) (hs : s.size = 16) (b1 : L < 4294967296) (b2 : I < 65536) (b3 : F < 65536)
    (H1 : ∀ W, Calls Tryz.prog 70 #[.string s, .int .i64 0, .int .i64 8, .bool false] W fun e w' => e = .returned (.tuple #[.int .u64 (A : Int), .int .i64 0]) ∧ W = w')
    (H2 : ∀ W, Calls Tryz.prog 70 #[.string s, .int .i64 8, .int .i64 4, .bool false] W fun e w' => e = .returned (.tuple #[.int .u64 (L : Int), .int .i64 0]) ∧ W = w')
    (H3 : ∀ W, Calls Tryz.prog 70 #[.string s, .int .i64 12, .int .i64 2, .bool false] W fun e w' => e = .returned (.tuple #[.int .u64 (I : Int), .int .i64 0]) ∧ W = w')
    (H4 : ∀ W, Calls Tryz.prog 70 #[.string s, .int .i64 14, .int .i64 2, .bool false] W fun e w' => e = .returned (.tuple #[.int .u64 (F : Int), .int .i64 0]) ∧ W = w') (w : World) :
    Calls Tryz.prog 38 #[.string s] w fun e w' => e = .returned (.tuple #[.agg #[.int .u64 (A : Int), .int .u32 (L : Int), .int .i64 (I : Int), .int .i64 (F : Int)], .int .i64 0]) ∧ Below w.heap.size w w' := by
  have G1 := Lib.hid H1
  have G2 := Lib.hid H2
  have G3 := Lib.hid H3
  have G4 := Lib.hid H4
  clear H1 H2 H3 H4
  have v1 : IntKind.u32.wrap (L : Int) = L := by rw [IntKind.wrap_u32]; omega
  have v2 : IntKind.i64.wrap (I : Int) = I := by rw [IntKind.wrap_i64]; omega
  have v3 : IntKind.i64.wrap (F : Int) = F := by rw [IntKind.wrap_i64]; omega
  have hc : ((s.size : Int) != 16) = false := by rw [hs]; rfl
  clear b1 b2 b3 hs
  go_enter Tryz.func38, Tryz.ntmps38
  go_wp2_with (first
      | (go_at_call 70; ((with_reducible refine (G1.out _).mono ?_); rintro e w' ⟨rfl, rfl⟩))
      | (go_at_call 70; ((with_reducible refine (G2.out _).mono ?_); rintro e w' ⟨rfl, rfl⟩))
      | (go_at_call 70; ((with_reducible refine (G3.out _).mono ?_); rintro e w' ⟨rfl, rfl⟩))
      | (go_at_call 70; ((with_reducible refine (G4.out _).mono ?_); rintro e w' ⟨rfl, rfl⟩)))
  have hZ := Held.new w 89 #[.int .u64 (A : Int), .int .u32 (L : Int), .int .i64 (I : Int), .int .i64 (F : Int)]
  refine bodyPost_ret (v := .tuple #[.agg #[.int .u64 (A : Int), .int .u32 (L : Int), .int .i64 (I : Int), .int .i64 (F : Int)], .int .i64 0]) (parse_results _ _ _ w.heap.size rfl rfl rfl _ _ _ _ ?_) rfl ⟨rfl, ?_⟩
  · exact hZ.blk
  · exact hZ.below
theorem rparse_bad (s : ByteArray) (hs : s.size ≠ 16) (w : World) :
    Calls Tryz.prog 38 #[.string s] w fun e w' => e = .returned (.tuple #[.agg #[.int .u64 0, .int .u32 0, .int .i64 0, .int .i64 0], .int .i64 1]) ∧ Below w.heap.size w w' := by
  have hc : ((s.size : Int) != 16) = true := by simp; omega
  have e1 := Held.new w 89 #[.int .u64 0, .int .u32 0, .int .i64 0, .int .i64 0]
  go_enter Tryz.func38, Tryz.ntmps38
  go_wp2_with fail
  refine bodyPost_ret (v := .tuple #[.agg #[.int .u64 0, .int .u32 0, .int .i64 0, .int .i64 0], .int .i64 1]) (parse_results _ _ _ w.heap.size rfl rfl rfl _ _ _ _ ?_) rfl ⟨rfl, ?_⟩
  · exact e1.blk
  · exact e1.below
theorem parse_ok (s : ByteArray) (hs : s.size = 16) (w : World) :
    Calls Tryz.prog 68 #[.string s] w fun e w' => e = .returned (.tuple #[.agg #[.int .u64 (gn s 0 8 : Int), .int .u32 (gn s 8 4 : Int), .int .i64 (gn s 12 2 : Int), .int .i64 (gn s 14 2 : Int)], .int .i64 0]) ∧ Below w.heap.size w w' := by
  have hm : s.size ≤ maxLen := by unfold maxLen; omega
  exact parse_walk s _ _ _ _ hs (gn_lt s 8 4 (by omega)) (gn_lt s 12 2 (by omega)) (gn_lt s 14 2 (by omega))
    (fun W => get_gn s 0 8 (by decide) (by decide) (by omega) hm W) (fun W => get_gn s 8 4 (by decide) (by decide) (by omega) hm W)
    (fun W => get_gn s 12 2 (by decide) (by decide) (by omega) hm W) (fun W => get_gn s 14 2 (by decide) (by decide) (by omega) hm W) w
theorem rparse_ok (s : ByteArray) (hs : s.size = 16) (w : World) :
    Calls Tryz.prog 38 #[.string s] w fun e w' => e = .returned (.tuple #[.agg #[.int .u64 (gn s 0 8 : Int), .int .u32 (gn s 8 4 : Int), .int .i64 (gn s 12 2 : Int), .int .i64 (gn s 14 2 : Int)], .int .i64 0]) ∧ Below w.heap.size w w' := by
  have hm : s.size ≤ maxLen := by unfold maxLen; omega
  exact rparse_walk s _ _ _ _ hs (gn_lt s 8 4 (by omega)) (gn_lt s 12 2 (by omega)) (gn_lt s 14 2 (by omega))
    (fun W => getr_gn s 0 8 (by decide) (by decide) (by omega) hm W) (fun W => getr_gn s 8 4 (by decide) (by decide) (by omega) hm W)
    (fun W => getr_gn s 12 2 (by decide) (by decide) (by omega) hm W) (fun W => getr_gn s 14 2 (by decide) (by decide) (by omega) hm W) w
end Go.Proofs.YtbpgblmhacpjlaaGreat
