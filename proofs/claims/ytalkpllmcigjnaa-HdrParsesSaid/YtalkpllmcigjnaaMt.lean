/-
  The document's Parse and Build of headers.
-/
import Derived.Test.YtalkpllmcigjnaaMh
import Derived.Test.YtalkpllmcigjnaaMg
import Derived.Laws.BytesArg
namespace Go.Proofs.Ytalkpllmcigjnaa
open Go.RowKit

theorem low_is (s : ByteArray) (a : Nat) (h : a + 2 ≤ s.size) : low s a 2 = s[a].toNat + 256 * s[a + 1].toNat := by
  unfold low cutl dec
  have h1 : a < s.data.toList.length := by show a < s.size; omega
  have h2 : a + 1 < s.data.toList.length := by show a + 1 < s.size; omega
  rw [if_neg (by decide), List.drop_eq_getElem_cons h1, List.drop_eq_getElem_cons h2]
  simp [val]
  rfl
theorem byte_low (s : ByteArray) (k : Nat) (h : k < s.size) : s[k].toNat = low s k 1 := by
  unfold low cutl dec
  have hk : k < s.data.toList.length := by simpa using h
  rw [if_neg (by decide), List.drop_eq_getElem_cons hk]
  simp [val]
  rfl
theorem num10_any (s : ByteArray) (a : Nat) (w : World) (h : a + 2 ≤ s.size) (hs : s.size ≤ maxLen) : Calls Try.prog 23 #[.string s, .int .i64 a] w fun e w' => e = .returned (.int .i64 (low s a 2)) ∧ ∃ n, w' = w.drewN n := by
  rw [low_is s a h]
  unfold maxLen at hs
  have ha := s[a].toNat_lt
  have hb := s[a + 1].toNat_lt
  have e0 : (a : Int) < s.size := by omega
  have e1 : (a : Int) + 1 < s.size := by omega
  have e2 : a < s.size := by omega
  have e3 : a + 1 < s.size := by omega
  have e4 : (0 : Int) ≤ (a : Int) + 1 := by omega
  have e5 : IntKind.i64.wrap ((a : Int) + 1) = (a : Int) + 1 := IntWalk.i64_in _ (by omega)
  have e6 : ((a : Int) + 1).toNat = a + 1 := by omega
  have e7 : IntKind.i64.wrap (s[a].toNat : Int) = (s[a].toNat : Int) := IntWalk.i64_in _ (by omega)
  have e8 : IntKind.i64.wrap (s[a + 1].toNat : Int) = (s[a + 1].toNat : Int) := IntWalk.i64_in _ (by omega)
  have e9 : IntKind.i64.wrap (256 * (s[a + 1].toNat : Int)) = 256 * (s[a + 1].toNat : Int) := IntWalk.i64_in _ (by omega)
  have e10 : IntKind.i64.wrap ((s[a].toNat : Int) + 256 * (s[a + 1].toNat : Int)) = (s[a].toNat : Int) + 256 * (s[a + 1].toNat : Int) := IntWalk.i64_in _ (by omega)
  go_enter Try.func23, Try.ntmps23
  go_wp2_with fail
  go_quiet (fail)
  go_wp2
  go_ret
  exact ⟨rfl, nq, rfl⟩
theorem rparse_results (w : World) (tmps : Array Value) (gf : Nat) {r : ByteArray} {n : Int} (h2 : tmps[2]?.getD undef = .pointer (some ⟨gf, 0, none⟩)) (h3 : tmps[3]?.getD undef = .string r) (h4 : tmps[4]?.getD undef = .int .i64 n) (h : Hd)
    (hF : Blk w gf 23 (hdL h)) : (results Try.f11 tmps).run Try.prog w = .ok (.tuple #[.agg (hdL h), .string r, .int .i64 n]) w := by
  have c0 := hF.cell 0
  have c1 := hF.cell 1
  have c2 := hF.cell 2
  have c3 := hF.cell 3
  have c4 := hF.cell 4
  have c5 := hF.cell 5
  have c6 := hF.cell 6
  simp only [hdL] at c0 c1 c2 c3 c4 c5 c6
  simp [results, Try.results11, go_sem, h2, h3, h4, c0, c1, c2, c3, c4, c5, c6, hdL]
theorem rparse_short (s : ByteArray) (w : World) (h : s.size < 12) :
    Calls Try.prog 11 #[.string s] w fun e w' => e = .returned (.tuple #[.agg (hdL .zero), .string ⟨#[]⟩, .int .i64 100]) ∧ Below w.heap.size w w' := by
  go_enter Try.func11, Try.ntmps11
  go_wp2_with fail
  refine bodyPost_ret (v := .tuple #[.agg (hdL .zero), .string ⟨#[]⟩, .int .i64 100]) (rparse_results _ _ w.heap.size rfl rfl rfl .zero ?_) rfl ⟨rfl, ?_⟩
  · exact Blk.new w 23 (hdL .zero)
  · exact (Below.refl _ _).alloc (Nat.le_refl _) _
theorem rparse_form (s : ByteArray) (w : World) (h : 12 ≤ s.size) (h3 : 3 < low s 0 1) :
    Calls Try.prog 11 #[.string s] w fun e w' => e = .returned (.tuple #[.agg (hdL .zero), .string ⟨#[]⟩, .int .i64 101]) ∧ Below w.heap.size w w' := by
  have k0 := byte_low s 0 (by omega)
  have q : ¬ (s.size : Int) < 12 := by omega
  have q1 : (0 : Int) < s.size := by omega
  have q2 : 0 < s.size := by omega
  generalize low s 0 1 = X at *
  go_enter Try.func11, Try.ntmps11
  go_wp2_with fail
  refine bodyPost_ret (v := .tuple #[.agg (hdL .zero), .string ⟨#[]⟩, .int .i64 101]) (rparse_results _ _ w.heap.size rfl rfl rfl .zero ?_) rfl ⟨rfl, ?_⟩
  · exact Blk.new w 23 (hdL .zero)
  · exact (Below.refl _ _).alloc (Nat.le_refl _) _
set_option maxRecDepth 100000 in
set_option maxHeartbeats 3200000 in
theorem rparse_good (s : ByteArray) (w : World) (h : 12 ≤ s.size) (hs : s.size ≤ maxLen) (h3 : low s 0 1 ≤ 3) :
    Calls Try.prog 11 #[.string s] w fun e w' => e = .returned (.tuple #[.agg (hdL ⟨low s 0 1, low s 1 1, low s 2 2, low s 4 2, low s 6 2, low s 8 2, low s 10 2⟩), .string (s.extract 12 s.size), .int .i64 0]) ∧ Below w.heap.size w w' := by
  have k0 := byte_low s 0 (by omega)
  have k1 := byte_low s 1 (by omega)
  have l1 := low_lt s 1 1
  have A2 : ∀ W, Calls Try.prog 23 #[.string s, .int .i64 2] W fun e w' => e = .returned (.int .i64 (low s 2 2)) ∧ ∃ n, w' = W.drewN n := fun W => num10_any s 2 W (by omega) hs
  have A4 : ∀ W, Calls Try.prog 23 #[.string s, .int .i64 4] W fun e w' => e = .returned (.int .i64 (low s 4 2)) ∧ ∃ n, w' = W.drewN n := fun W => num10_any s 4 W (by omega) hs
  have A6 : ∀ W, Calls Try.prog 23 #[.string s, .int .i64 6] W fun e w' => e = .returned (.int .i64 (low s 6 2)) ∧ ∃ n, w' = W.drewN n := fun W => num10_any s 6 W (by omega) hs
  have A8 : ∀ W, Calls Try.prog 23 #[.string s, .int .i64 8] W fun e w' => e = .returned (.int .i64 (low s 8 2)) ∧ ∃ n, w' = W.drewN n := fun W => num10_any s 8 W (by omega) hs
  have A10 : ∀ W, Calls Try.prog 23 #[.string s, .int .i64 10] W fun e w' => e = .returned (.int .i64 (low s 10 2)) ∧ ∃ n, w' = W.drewN n := fun W => num10_any s 10 W (by omega) hs
  unfold maxLen at hs
  generalize low s 0 1 = X0 at *
  generalize low s 1 1 = X1 at *
  generalize low s 2 2 = X2 at *
  have H2 := Lib.hid A2
  generalize low s 4 2 = X4 at *
  have H4 := Lib.hid A4
  generalize low s 6 2 = X6 at *
  have H6 := Lib.hid A6
  generalize low s 8 2 = X8 at *
  have H8 := Lib.hid A8
  generalize low s 10 2 = X10 at *
  have H10 := Lib.hid A10
  clear A2 A4 A6 A8 A10
  have q : ¬ (s.size : Int) < 12 := by omega
  have q1 : (0 : Int) < s.size := by omega
  have q2 : 0 < s.size := by omega
  have q3 : (1 : Int) < s.size := by omega
  have q4 : 1 < s.size := by omega
  have q5 : (12 : Int) ≤ s.size := by omega
  have w0 : IntKind.i64.wrap (X0 : Int) = (X0 : Int) := IntWalk.i64_in _ (by omega)
  have w1 : IntKind.i64.wrap (X1 : Int) = (X1 : Int) := IntWalk.i64_in _ (by omega)
  go_enter Try.func11, Try.ntmps11
  go_wp2_with fail
  go_region_held3 (fun w' => Below w.heap.size w w') (with_reducible (repeat' (first | assumption | exact Below.refl _ _ | refine below_drewN ?_ _ | refine Below.drew ?_ | refine Below.alloc ?_ (by simp) _ | refine Below.setCell ?_ (by simp) _)))
    (first | (go_at_call 23; (first | (with_reducible refine (H2.out _).mono ?_) | (with_reducible refine (H4.out _).mono ?_) | (with_reducible refine (H6.out _).mono ?_) | (with_reducible refine (H8.out _).mono ?_) | (with_reducible refine (H10.out _).mono ?_)); rintro e w' ⟨rfl, n, rfl⟩))
  all_goals
    rename_i hH
    go_wp2_with fail
    refine bodyPost_ret (v := .tuple #[.agg (hdL ⟨X0, X1, X2, X4, X6, X8, X10⟩), .string (s.extract 12 s.size), .int .i64 0]) (by simp [results, Try.results11, go_sem, hdL]) rfl ⟨rfl, ?_⟩
    (with_reducible (repeat' (first | exact Below.refl _ _ | refine below_drewN ?_ _ | refine Below.drew ?_ | refine Below.alloc ?_ (by first | (simp; done) | (simp; omega)) _ | refine Below.setCell ?_ (by first | (simp; done) | (simp; omega)) _)))
theorem rparse_any (s : ByteArray) (w : World) (hs : s.size ≤ maxLen) :
    Calls Try.prog 11 #[.string s] w fun e w' => e = .returned (.tuple #[.agg (hdL (hdV s)), .string (hdR s), .int .i64 (hdE s)]) ∧ Below w.heap.size w w' := by
  by_cases h : s.size < 12
  · have e : hdE s = 100 := by rw [hdE, if_pos h]
    rw [hdV, hdR, e, if_neg (by decide), if_neg (by decide)]
    exact rparse_short s w h
  · by_cases h3 : 3 < low s 0 1
    · have e : hdE s = 101 := by rw [hdE, if_neg h, if_pos h3]
      rw [hdV, hdR, e, if_neg (by decide), if_neg (by decide)]
      exact rparse_form s w (by omega) h3
    · have e : hdE s = 0 := by rw [hdE, if_neg h, if_neg (by omega)]
      rw [hdV, hdR, e, if_pos rfl, if_pos rfl]
      exact rparse_good s w (by omega) hs (by omega)
end Go.Proofs.Ytalkpllmcigjnaa
namespace Go.Proofs.Ytalkpllmcigjnaa
open Go.RowKit

theorem two_bytes (W : World) (a b : Int) : (convert 53 9 (.slice (some ⟨W.heap.size, 0, none⟩) 2 2)).run Try.prog (W.alloc (.cells #[.int .u8 a, .int .u8 b] 5)) = .ok (.string (strOfNums [a, b])) (W.alloc (.cells #[.int .u8 a, .int .u8 b] 5)) := by
  refine run_convert_bytes_arg _ 53 5 Try.underlying53 Try.underlying5 W.heap.size 0 2 2 [a, b] rfl ?_ 9 Try.underlying9
  intro i hi
  match i, hi with
  | 0, _ => simp
  | 1, _ => simp
theorem two_bytes_drew (W : World) (a b : Int) : (convert 53 9 (.slice (some ⟨W.heap.size, 0, none⟩) 2 2)).run Try.prog (W.alloc (.cells #[.int .u8 a, .int .u8 b] 5)).drew = .ok (.string (strOfNums [a, b])) (W.alloc (.cells #[.int .u8 a, .int .u8 b] 5)).drew := by
  refine run_convert_bytes_arg _ 53 5 Try.underlying53 Try.underlying5 W.heap.size 0 2 2 [a, b] rfl ?_ 9 Try.underlying9
  intro i hi
  match i, hi with
  | 0, _ => show (W.alloc _).cell? _ = _; simp
  | 1, _ => show (W.alloc _).cell? _ = _; simp
theorem lbs_two (v : Int) (h0 : 0 ≤ v) (h1 : v ≤ 65535) : strOfNums [v % 256, v / 256] = lbs v 2 := by
  unfold strOfNums lbs enc
  simp only [List.map_cons, List.map_nil, digs]
  rw [if_neg (by decide)]
  congr 3
  · apply UInt8.toNat_inj.1
    rw [UInt8.toNat_ofNat', UInt8.toNat_ofNat']; omega
  · congr 1
    apply UInt8.toNat_inj.1
    rw [UInt8.toNat_ofNat', UInt8.toNat_ofNat']; omega
theorem lbs_ones (a b : Int) : strOfNums [a, b] = lbs a 1 ++ lbs b 1 := by
  unfold strOfNums lbs enc
  simp only [List.map_cons, List.map_nil, digs]
  rw [if_neg (by decide), if_neg (by decide)]
  rfl
def fldH (len siz start off count : Int) (j : Nat) : Int := if j = 0 then len else if j = 1 then siz else if j = 2 then start else if j = 3 then off else count
def preH (S : ByteArray) (f : Nat → Int) : Nat → ByteArray
  | 0 => S
  | k + 1 => preH S f k ++ lbs (f k) 2
theorem preH_size (S : ByteArray) (f : Nat → Int) (k : Nat) : (preH S f k).size = S.size + 2 * k := by
  induction k with
  | zero => rfl
  | succ k ih => rw [preH, ByteArray.size_append, ih, lbs_size]; omega
theorem rhb_fl (flags gso len siz start off count : Int) (w : World) (h : flags < 0) : Calls Try.prog 13 #[.agg #[.int .i64 flags, .int .i64 gso, .int .i64 len, .int .i64 siz, .int .i64 start, .int .i64 off, .int .i64 count]] w fun e w' => e = .returned (.tuple #[.string ⟨#[]⟩, .int .i64 101]) ∧ Below w.heap.size w w' := by
  go_enter Try.func13, Try.ntmps13
  go_wp2_with fail
  go_ret2
  exact ⟨rfl, (Below.refl _ _).alloc (Nat.le_refl _) _⟩
theorem rhb_fh (flags gso len siz start off count : Int) (w : World) (h0 : 0 ≤ flags) (h : 3 < flags) : Calls Try.prog 13 #[.agg #[.int .i64 flags, .int .i64 gso, .int .i64 len, .int .i64 siz, .int .i64 start, .int .i64 off, .int .i64 count]] w fun e w' => e = .returned (.tuple #[.string ⟨#[]⟩, .int .i64 101]) ∧ Below w.heap.size w w' := by
  have _ := h0
  have f1 : ¬ flags < 0 := by omega
  go_enter Try.func13, Try.ntmps13
  go_wp2_with fail
  go_ret2
  exact ⟨rfl, (Below.refl _ _).alloc (Nat.le_refl _) _⟩
theorem rhb_gl (flags gso len siz start off count : Int) (w : World) (hf : 0 ≤ flags ∧ flags ≤ 3) (h : gso < 0) : Calls Try.prog 13 #[.agg #[.int .i64 flags, .int .i64 gso, .int .i64 len, .int .i64 siz, .int .i64 start, .int .i64 off, .int .i64 count]] w fun e w' => e = .returned (.tuple #[.string ⟨#[]⟩, .int .i64 101]) ∧ Below w.heap.size w w' := by
  have f1 : ¬ flags < 0 := by omega
  have f2 : ¬ 3 < flags := by omega
  go_enter Try.func13, Try.ntmps13
  go_wp2_with fail
  go_ret2
  exact ⟨rfl, (Below.refl _ _).alloc (Nat.le_refl _) _⟩
theorem rhb_gh (flags gso len siz start off count : Int) (w : World) (hf : 0 ≤ flags ∧ flags ≤ 3) (h0 : 0 ≤ gso) (h : 255 < gso) : Calls Try.prog 13 #[.agg #[.int .i64 flags, .int .i64 gso, .int .i64 len, .int .i64 siz, .int .i64 start, .int .i64 off, .int .i64 count]] w fun e w' => e = .returned (.tuple #[.string ⟨#[]⟩, .int .i64 101]) ∧ Below w.heap.size w w' := by
  have _ := h0
  have f1 : ¬ flags < 0 := by omega
  have f2 : ¬ 3 < flags := by omega
  have f3 : ¬ gso < 0 := by omega
  go_enter Try.func13, Try.ntmps13
  go_wp2_with fail
  go_ret2
  exact ⟨rfl, (Below.refl _ _).alloc (Nat.le_refl _) _⟩
set_option maxRecDepth 100000 in
set_option maxHeartbeats 6400000 in
theorem rhb_walk (flags gso len siz start off count : Int) (w : World) (hf : 0 ≤ flags ∧ flags ≤ 3) (hg : 0 ≤ gso ∧ gso ≤ 255) (S0 S' : ByteArray) (E' : Int) (hS : strOfNums [flags, gso] = S0)
    (hgood : (∀ j, j < 5 → 0 ≤ fldH len siz start off count j ∧ fldH len siz start off count j ≤ 65535) → S' = preH S0 (fldH len siz start off count) 5 ∧ E' = 0) (hbad : ∀ j, j < 5 → ¬ (0 ≤ fldH len siz start off count j ∧ fldH len siz start off count j ≤ 65535) → S' = ⟨#[]⟩ ∧ E' = 101) :
    Calls Try.prog 13 #[.agg #[.int .i64 flags, .int .i64 gso, .int .i64 len, .int .i64 siz, .int .i64 start, .int .i64 off, .int .i64 count]] w fun e w' => e = .returned (.tuple #[.string S', .int .i64 E']) ∧ Below w.heap.size w w' := by
  have hcv : (convert 53 9 (.slice (some ⟨w.heap.size + 1, 0, none⟩) 2 2)).run Try.prog ((w.alloc (.cells #[.int .i64 flags, .int .i64 gso, .int .i64 len, .int .i64 siz, .int .i64 start, .int .i64 off, .int .i64 count] 23)).alloc (.cells #[.int .u8 flags, .int .u8 gso] 5)) = .ok (.string S0) ((w.alloc (.cells #[.int .i64 flags, .int .i64 gso, .int .i64 len, .int .i64 siz, .int .i64 start, .int .i64 off, .int .i64 count] 23)).alloc (.cells #[.int .u8 flags, .int .u8 gso] 5)) := by
    have := two_bytes (w.alloc (.cells #[.int .i64 flags, .int .i64 gso, .int .i64 len, .int .i64 siz, .int .i64 start, .int .i64 off, .int .i64 count] 23)) flags gso
    rw [hS] at this
    simpa using this
  have f1 : ¬ flags < 0 := by omega
  have f2 : ¬ 3 < flags := by omega
  have f3 : ¬ gso < 0 := by omega
  have f4 : ¬ 255 < gso := by omega
  have u1 : IntKind.u8.wrap flags = flags := IntKind.wrap_u8 _ |>.trans (by omega)
  have u2 : IntKind.u8.wrap gso = gso := IntKind.wrap_u8 _ |>.trans (by omega)
  have hz : S0.size = 2 := by rw [← hS]; rfl
  have HG := Lib.hid hgood
  have HB := Lib.hid hbad
  clear hgood hbad
  go_enter Try.func13, Try.ntmps13
  go_wp2_with fail
  clear f1 f2 f3 f4 u1 u2 hcv
  go_loopw [4, 6] (fun s i wr => ∃ k : Nat, k ≤ 5 ∧ i = .int .i64 k ∧ s = .string (preH S0 (fldH len siz start off count) k) ∧ (∀ j, j < k → 0 ≤ fldH len siz start off count j ∧ fldH len siz start off count j ≤ 65535) ∧ Blk wr (w.heap.size + 1 + 1) 3 #[.int .i64 len, .int .i64 siz, .int .i64 start, .int .i64 off, .int .i64 count] ∧ Below w.heap.size w wr) (fun _ i _ => 5 - (intOf i).toNat)
  case atStart =>
    refine ⟨0, Nat.zero_le _, rfl, rfl, fun j hj => absurd hj (Nat.not_lt_zero _), ?_, ?_⟩
    · have := Blk.new ((w.alloc (.cells #[.int .i64 flags, .int .i64 gso, .int .i64 len, .int .i64 siz, .int .i64 start, .int .i64 off, .int .i64 count] 23)).alloc (.cells #[.int .u8 flags, .int .u8 gso] 5)) 3 #[.int .i64 len, .int .i64 siz, .int .i64 start, .int .i64 off, .int .i64 count]
      simpa using this
    · exact (((Below.refl _ _).alloc (Nat.le_refl _) _).alloc (by simp) _).alloc (by simp; omega) _
  case round =>
    obtain ⟨k, hk, rfl, rfl, hall, hbk, hbl⟩ := hrel
    have hgb := hbl.size
    have hsz := preH_size S0 (fldH len siz start off count) k
    rcases (by omega : k = 0 ∨ k = 1 ∨ k = 2 ∨ k = 3 ∨ k = 4 ∨ k = 5) with rfl | rfl | rfl | rfl | rfl | rfl
    · have c0 : wr.cell? ⟨w.heap.size + 1 + 1, 0, none⟩ = some (.int .i64 len) := hbk.cell 0
      by_cases h1 : len < 0
      · obtain ⟨rfl, rfl⟩ := HB.out 0 (by omega) (show ¬ (0 ≤ len ∧ len ≤ 65535) by omega)
        go_wp2_with fail
        go_ret2
        exact ⟨rfl, hbl⟩
      · by_cases h2 : 65535 < len
        · obtain ⟨rfl, rfl⟩ := HB.out 0 (by omega) (show ¬ (0 ≤ len ∧ len ≤ 65535) by omega)
          go_wp2_with fail
          go_ret2
          exact ⟨rfl, hbl⟩
        · have hcv := two_bytes_drew wr (len % 256) (len / 256)
          rw [lbs_two len (by omega) (by omega)] at hcv
          have m1 : len.tmod 256 = len % 256 := Int.tmod_eq_emod_of_nonneg (by omega)
          have m2 : len.tdiv 256 = len / 256 := Int.tdiv_eq_ediv_of_nonneg (by omega)
          have m3 : IntKind.u8.wrap (len % 256) = len % 256 := IntKind.wrap_u8 _ |>.trans (by omega)
          have m4 : IntKind.u8.wrap (len / 256) = len / 256 := IntKind.wrap_u8 _ |>.trans (by omega)
          have hT := lbs_size len 2
          have hP : preH S0 (fldH len siz start off count) 0 ++ lbs len 2 = preH S0 (fldH len siz start off count) (0 + 1) := rfl
          generalize lbs len 2 = TT at *
          generalize hPN : preH S0 (fldH len siz start off count) (0 + 1) = PN at *
          generalize preH S0 (fldH len siz start off count) 0 = PP at *
          have z1 : ¬ 9223372036854775807 < PP.size + TT.size := by omega
          go_wp2_with fail
          go_region
          go_wp2_with fail
          refine ⟨⟨1, by omega, rfl, by rw [← hPN], fun j hj => ?_, (hbk.alloc _).drew, (hbl.alloc hgb _).drew⟩, by simp [intOf]⟩
          rcases Nat.lt_or_ge j 0 with hjk | hjk
          · exact hall j hjk
          · obtain rfl : j = 0 := by omega
            exact ⟨by show 0 ≤ len; omega, by show len ≤ 65535; omega⟩
    · have c0 : wr.cell? ⟨w.heap.size + 1 + 1, 1, none⟩ = some (.int .i64 siz) := hbk.cell 1
      by_cases h1 : siz < 0
      · obtain ⟨rfl, rfl⟩ := HB.out 1 (by omega) (show ¬ (0 ≤ siz ∧ siz ≤ 65535) by omega)
        go_wp2_with fail
        go_ret2
        exact ⟨rfl, hbl⟩
      · by_cases h2 : 65535 < siz
        · obtain ⟨rfl, rfl⟩ := HB.out 1 (by omega) (show ¬ (0 ≤ siz ∧ siz ≤ 65535) by omega)
          go_wp2_with fail
          go_ret2
          exact ⟨rfl, hbl⟩
        · have hcv := two_bytes_drew wr (siz % 256) (siz / 256)
          rw [lbs_two siz (by omega) (by omega)] at hcv
          have m1 : siz.tmod 256 = siz % 256 := Int.tmod_eq_emod_of_nonneg (by omega)
          have m2 : siz.tdiv 256 = siz / 256 := Int.tdiv_eq_ediv_of_nonneg (by omega)
          have m3 : IntKind.u8.wrap (siz % 256) = siz % 256 := IntKind.wrap_u8 _ |>.trans (by omega)
          have m4 : IntKind.u8.wrap (siz / 256) = siz / 256 := IntKind.wrap_u8 _ |>.trans (by omega)
          have hT := lbs_size siz 2
          have hP : preH S0 (fldH len siz start off count) 1 ++ lbs siz 2 = preH S0 (fldH len siz start off count) (1 + 1) := rfl
          generalize lbs siz 2 = TT at *
          generalize hPN : preH S0 (fldH len siz start off count) (1 + 1) = PN at *
          generalize preH S0 (fldH len siz start off count) 1 = PP at *
          have z1 : ¬ 9223372036854775807 < PP.size + TT.size := by omega
          go_wp2_with fail
          go_region
          go_wp2_with fail
          refine ⟨⟨2, by omega, rfl, by rw [← hPN], fun j hj => ?_, (hbk.alloc _).drew, (hbl.alloc hgb _).drew⟩, by simp [intOf]⟩
          rcases Nat.lt_or_ge j 1 with hjk | hjk
          · exact hall j hjk
          · obtain rfl : j = 1 := by omega
            exact ⟨by show 0 ≤ siz; omega, by show siz ≤ 65535; omega⟩
    · have c0 : wr.cell? ⟨w.heap.size + 1 + 1, 2, none⟩ = some (.int .i64 start) := hbk.cell 2
      by_cases h1 : start < 0
      · obtain ⟨rfl, rfl⟩ := HB.out 2 (by omega) (show ¬ (0 ≤ start ∧ start ≤ 65535) by omega)
        go_wp2_with fail
        go_ret2
        exact ⟨rfl, hbl⟩
      · by_cases h2 : 65535 < start
        · obtain ⟨rfl, rfl⟩ := HB.out 2 (by omega) (show ¬ (0 ≤ start ∧ start ≤ 65535) by omega)
          go_wp2_with fail
          go_ret2
          exact ⟨rfl, hbl⟩
        · have hcv := two_bytes_drew wr (start % 256) (start / 256)
          rw [lbs_two start (by omega) (by omega)] at hcv
          have m1 : start.tmod 256 = start % 256 := Int.tmod_eq_emod_of_nonneg (by omega)
          have m2 : start.tdiv 256 = start / 256 := Int.tdiv_eq_ediv_of_nonneg (by omega)
          have m3 : IntKind.u8.wrap (start % 256) = start % 256 := IntKind.wrap_u8 _ |>.trans (by omega)
          have m4 : IntKind.u8.wrap (start / 256) = start / 256 := IntKind.wrap_u8 _ |>.trans (by omega)
          have hT := lbs_size start 2
          have hP : preH S0 (fldH len siz start off count) 2 ++ lbs start 2 = preH S0 (fldH len siz start off count) (2 + 1) := rfl
          generalize lbs start 2 = TT at *
          generalize hPN : preH S0 (fldH len siz start off count) (2 + 1) = PN at *
          generalize preH S0 (fldH len siz start off count) 2 = PP at *
          have z1 : ¬ 9223372036854775807 < PP.size + TT.size := by omega
          go_wp2_with fail
          go_region
          go_wp2_with fail
          refine ⟨⟨3, by omega, rfl, by rw [← hPN], fun j hj => ?_, (hbk.alloc _).drew, (hbl.alloc hgb _).drew⟩, by simp [intOf]⟩
          rcases Nat.lt_or_ge j 2 with hjk | hjk
          · exact hall j hjk
          · obtain rfl : j = 2 := by omega
            exact ⟨by show 0 ≤ start; omega, by show start ≤ 65535; omega⟩
    · have c0 : wr.cell? ⟨w.heap.size + 1 + 1, 3, none⟩ = some (.int .i64 off) := hbk.cell 3
      by_cases h1 : off < 0
      · obtain ⟨rfl, rfl⟩ := HB.out 3 (by omega) (show ¬ (0 ≤ off ∧ off ≤ 65535) by omega)
        go_wp2_with fail
        go_ret2
        exact ⟨rfl, hbl⟩
      · by_cases h2 : 65535 < off
        · obtain ⟨rfl, rfl⟩ := HB.out 3 (by omega) (show ¬ (0 ≤ off ∧ off ≤ 65535) by omega)
          go_wp2_with fail
          go_ret2
          exact ⟨rfl, hbl⟩
        · have hcv := two_bytes_drew wr (off % 256) (off / 256)
          rw [lbs_two off (by omega) (by omega)] at hcv
          have m1 : off.tmod 256 = off % 256 := Int.tmod_eq_emod_of_nonneg (by omega)
          have m2 : off.tdiv 256 = off / 256 := Int.tdiv_eq_ediv_of_nonneg (by omega)
          have m3 : IntKind.u8.wrap (off % 256) = off % 256 := IntKind.wrap_u8 _ |>.trans (by omega)
          have m4 : IntKind.u8.wrap (off / 256) = off / 256 := IntKind.wrap_u8 _ |>.trans (by omega)
          have hT := lbs_size off 2
          have hP : preH S0 (fldH len siz start off count) 3 ++ lbs off 2 = preH S0 (fldH len siz start off count) (3 + 1) := rfl
          generalize lbs off 2 = TT at *
          generalize hPN : preH S0 (fldH len siz start off count) (3 + 1) = PN at *
          generalize preH S0 (fldH len siz start off count) 3 = PP at *
          have z1 : ¬ 9223372036854775807 < PP.size + TT.size := by omega
          go_wp2_with fail
          go_region
          go_wp2_with fail
          refine ⟨⟨4, by omega, rfl, by rw [← hPN], fun j hj => ?_, (hbk.alloc _).drew, (hbl.alloc hgb _).drew⟩, by simp [intOf]⟩
          rcases Nat.lt_or_ge j 3 with hjk | hjk
          · exact hall j hjk
          · obtain rfl : j = 3 := by omega
            exact ⟨by show 0 ≤ off; omega, by show off ≤ 65535; omega⟩
    · have c0 : wr.cell? ⟨w.heap.size + 1 + 1, 4, none⟩ = some (.int .i64 count) := hbk.cell 4
      by_cases h1 : count < 0
      · obtain ⟨rfl, rfl⟩ := HB.out 4 (by omega) (show ¬ (0 ≤ count ∧ count ≤ 65535) by omega)
        go_wp2_with fail
        go_ret2
        exact ⟨rfl, hbl⟩
      · by_cases h2 : 65535 < count
        · obtain ⟨rfl, rfl⟩ := HB.out 4 (by omega) (show ¬ (0 ≤ count ∧ count ≤ 65535) by omega)
          go_wp2_with fail
          go_ret2
          exact ⟨rfl, hbl⟩
        · have hcv := two_bytes_drew wr (count % 256) (count / 256)
          rw [lbs_two count (by omega) (by omega)] at hcv
          have m1 : count.tmod 256 = count % 256 := Int.tmod_eq_emod_of_nonneg (by omega)
          have m2 : count.tdiv 256 = count / 256 := Int.tdiv_eq_ediv_of_nonneg (by omega)
          have m3 : IntKind.u8.wrap (count % 256) = count % 256 := IntKind.wrap_u8 _ |>.trans (by omega)
          have m4 : IntKind.u8.wrap (count / 256) = count / 256 := IntKind.wrap_u8 _ |>.trans (by omega)
          have hT := lbs_size count 2
          have hP : preH S0 (fldH len siz start off count) 4 ++ lbs count 2 = preH S0 (fldH len siz start off count) (4 + 1) := rfl
          generalize lbs count 2 = TT at *
          generalize hPN : preH S0 (fldH len siz start off count) (4 + 1) = PN at *
          generalize preH S0 (fldH len siz start off count) 4 = PP at *
          have z1 : ¬ 9223372036854775807 < PP.size + TT.size := by omega
          go_wp2_with fail
          go_region
          go_wp2_with fail
          refine ⟨⟨5, by omega, rfl, by rw [← hPN], fun j hj => ?_, (hbk.alloc _).drew, (hbl.alloc hgb _).drew⟩, by simp [intOf]⟩
          rcases Nat.lt_or_ge j 4 with hjk | hjk
          · exact hall j hjk
          · obtain rfl : j = 4 := by omega
            exact ⟨by show 0 ≤ count; omega, by show count ≤ 65535; omega⟩
    · obtain ⟨rfl, rfl⟩ := HG.out hall
      go_wp2_with fail
      go_ret2
      exact ⟨rfl, hbl⟩
theorem fld_at (h : Hd) (j : Nat) (hj : j < 5) (P : Int → Prop) (h0 : P h.len) (h1 : P h.siz) (h2 : P h.start) (h3 : P h.off) (h4 : P h.count) : P (fldH h.len h.siz h.start h.off h.count j) := by
  rcases (by omega : j = 0 ∨ j = 1 ∨ j = 2 ∨ j = 3 ∨ j = 4) with rfl | rfl | rfl | rfl | rfl
  · exact h0
  · exact h1
  · exact h2
  · exact h3
  · exact h4
theorem rhb_any (h : Hd) (w : World) : Calls Try.prog 13 #[.agg (hdL h)] w fun e w' => e = .returned (.tuple #[.string (hdS h), .int .i64 (hdF h)]) ∧ Below w.heap.size w w' := by
  have bad : okH h = false → hdS h = ⟨#[]⟩ ∧ hdF h = 101 := fun k => ⟨by rw [hdS, k]; rfl, by rw [hdF, k]; rfl⟩
  have nok : ¬ (okH h = true) → okH h = false := fun k => by simpa using k
  by_cases f1 : h.flags < 0
  · obtain ⟨e1, e2⟩ := bad (nok fun k => by have := okH_iff.1 k; omega)
    rw [e1, e2]
    exact rhb_fl _ _ _ _ _ _ _ w f1
  by_cases f2 : 3 < h.flags
  · obtain ⟨e1, e2⟩ := bad (nok fun k => by have := okH_iff.1 k; omega)
    rw [e1, e2]
    exact rhb_fh _ _ _ _ _ _ _ w (by omega) f2
  by_cases g1 : h.gso < 0
  · obtain ⟨e1, e2⟩ := bad (nok fun k => by have := okH_iff.1 k; omega)
    rw [e1, e2]
    exact rhb_gl _ _ _ _ _ _ _ w (by omega) g1
  by_cases g2 : 255 < h.gso
  · obtain ⟨e1, e2⟩ := bad (nok fun k => by have := okH_iff.1 k; omega)
    rw [e1, e2]
    exact rhb_gh _ _ _ _ _ _ _ w (by omega) (by omega) g2
  refine rhb_walk _ _ _ _ _ _ _ w (by omega) (by omega) (lbs h.flags 1 ++ lbs h.gso 1) _ _ (lbs_ones _ _) (fun hall => ?_) (fun j hj hn => ?_)
  · have k0 : 0 ≤ h.len ∧ h.len ≤ 65535 := hall 0 (by omega)
    have k1 : 0 ≤ h.siz ∧ h.siz ≤ 65535 := hall 1 (by omega)
    have k2 : 0 ≤ h.start ∧ h.start ≤ 65535 := hall 2 (by omega)
    have k3 : 0 ≤ h.off ∧ h.off ≤ 65535 := hall 3 (by omega)
    have k4 : 0 ≤ h.count ∧ h.count ≤ 65535 := hall 4 (by omega)
    have ok : okH h = true := okH_iff.2 (by omega)
    exact ⟨by rw [hdS, if_pos ok]; rfl, by rw [hdF, if_pos ok]⟩
  · refine bad (nok fun k => hn ?_)
    have := okH_iff.1 k
    exact fld_at h j hj (fun x => 0 ≤ x ∧ x ≤ 65535) (by omega) (by omega) (by omega) (by omega) (by omega)
end Go.Proofs.Ytalkpllmcigjnaa
