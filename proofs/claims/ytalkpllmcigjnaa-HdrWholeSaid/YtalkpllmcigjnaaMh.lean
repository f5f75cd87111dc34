/-
  Headers: what nethdr.Parse, Build and Finish answer.
-/
import Derived.Test.YtalkpllmcigjnaaMe
namespace Go.Proofs.Ytalkpllmcigjnaa
open Go.RowKit

/-- A header, taken apart. -/
structure Hd where
  flags : Int
  gso : Int
  len : Int
  siz : Int
  start : Int
  off : Int
  count : Int
def hdL (h : Hd) : Array Value := #[.int .i64 h.flags, .int .i64 h.gso, .int .i64 h.len, .int .i64 h.siz, .int .i64 h.start, .int .i64 h.off, .int .i64 h.count]
def Hd.zero : Hd := ⟨0, 0, 0, 0, 0, 0, 0⟩
def inI (v : Int) : Prop := -9223372036854775808 ≤ v ∧ v ≤ 9223372036854775807
def Hd.Fits (h : Hd) : Prop := inI h.flags ∧ inI h.gso ∧ inI h.len ∧ inI h.siz ∧ inI h.start ∧ inI h.off ∧ inI h.count
/-- The number in n bytes, the lowest first. -/
def low (s : ByteArray) (a n : Nat) : Nat := dec (cutl s a n) false
theorem low_lt (s : ByteArray) (a n : Nat) : low s a n < 256 ^ n := by
  have h := dec_lt (cutl s a n) false
  have : (cutl s a n).length ≤ n := by simp [cutl]; omega
  exact Nat.lt_of_lt_of_le h (Nat.pow_le_pow_right (by decide) this)
theorem rdr_any (s : ByteArray) (w : World) :
    Calls Try.prog 22 #[.string s] w fun e w' => e = .returned (.func (.func 55) #[] #[.pointer (some ⟨w.heap.size, 0, none⟩), .pointer (some ⟨w.heap.size + 1, 0, none⟩)]) ∧ w' = (w.alloc (.cells #[.string s] 9)).alloc (.cells #[.int .i64 0] 3) := by
  go_enter Try.func22, Try.ntmps22
  go_wp2
  go_ret
  exact ⟨by simp, rfl⟩
theorem Blk.drew {w : World} {g : Nat} {t : TypeId} {cs : Array Value} (h : Blk w g t cs) : Blk w.drew g t cs := h
/-- a header under way: the result, the string, the place, the header. -/
structure HS (w0 : World) (s : ByteArray) (a : Nat) (cs : Array Value) (w : World) : Prop where
  res : Blk w w0.heap.size 23 (hdL .zero)
  box : Blk w (w0.heap.size + 1) 9 #[.string s]
  at_ : Blk w (w0.heap.size + 1 + 1) 3 #[.int .i64 a]
  hb : Blk w (w0.heap.size + 1 + 1 + 1) 23 cs
  below : Below w0.heap.size w0 w
theorem HS.on {w0 w w' : World} {s : ByteArray} {a : Nat} {cs : Array Value} (h : HS w0 s a cs w) (hb : Below w.heap.size w w') : HS w0 s a cs w' :=
  ⟨h.res.same (hb.block _ h.res.lt), h.box.same (hb.block _ h.box.lt), h.at_.same (hb.block _ h.at_.lt), h.hb.same (hb.block _ h.hb.lt), h.below.trans (hb.mono (by have := h.hb.lt; omega))⟩
theorem HS.put {w0 w : World} {s : ByteArray} {a : Nat} {cs cs' : Array Value} (h : HS w0 s a cs w) (i : Nat) (x : Value) (e : cs.setIfInBounds i x = cs') : HS w0 s a cs' (w.setCell ⟨w0.heap.size + 1 + 1 + 1, i, none⟩ x) :=
  ⟨h.res.other (by omega) _ _, h.box.other (by omega) _ _, h.at_.other (by omega) _ _, h.hb.put' i x e, h.below.setCell (by show _ ≤ w0.heap.size + 1 + 1 + 1; omega) _⟩
theorem HS.go {w0 w : World} {s : ByteArray} {a : Nat} {cs : Array Value} (h : HS w0 s a cs w) (a' : Nat) : HS w0 s a' cs (w.setCell ⟨w0.heap.size + 1 + 1, 0, none⟩ (.int .i64 a')) :=
  ⟨h.res.other (by omega) _ _, h.box.other (by omega) _ _, h.at_.put' 0 _ rfl, h.hb.other (by omega) _ _, h.below.setCell (by show _ ≤ w0.heap.size + 1 + 1; omega) _⟩
theorem HS.new (w : World) (s : ByteArray) : HS w s 0 (hdL .zero) ((((w.alloc (.cells (hdL .zero) 23)).alloc (.cells #[.string s] 9)).alloc (.cells #[.int .i64 0] 3)).alloc (.cells (hdL .zero) 23)) := by
  have h1 := Blk.new w 23 (hdL .zero)
  have h2 : Blk ((w.alloc (.cells (hdL .zero) 23)).alloc (.cells #[.string s] 9)) (w.heap.size + 1) 9 #[.string s] := by
    have := Blk.new (w.alloc (.cells (hdL .zero) 23)) 9 #[.string s]; simpa using this
  have h3 : Blk (((w.alloc (.cells (hdL .zero) 23)).alloc (.cells #[.string s] 9)).alloc (.cells #[.int .i64 0] 3)) (w.heap.size + 1 + 1) 3 #[.int .i64 0] := by
    have := Blk.new ((w.alloc (.cells (hdL .zero) 23)).alloc (.cells #[.string s] 9)) 3 #[.int .i64 0]; simpa using this
  have h4 : Blk ((((w.alloc (.cells (hdL .zero) 23)).alloc (.cells #[.string s] 9)).alloc (.cells #[.int .i64 0] 3)).alloc (.cells (hdL .zero) 23)) (w.heap.size + 1 + 1 + 1) 23 (hdL .zero) := by
    have := Blk.new (((w.alloc (.cells (hdL .zero) 23)).alloc (.cells #[.string s] 9)).alloc (.cells #[.int .i64 0] 3)) 23 (hdL .zero); simpa using this
  exact ⟨((h1.alloc _).alloc _).alloc _, (h2.alloc _).alloc _, h3.alloc _, h4, ((((Below.refl _ _).alloc (Nat.le_refl _) _).alloc (by simp) _).alloc (by simp; omega) _).alloc (by simp; omega) _⟩
theorem next_hd {w0 w : World} {s : ByteArray} {a : Nat} {cs : Array Value} (h : HS w0 s a cs w) (n : Nat) (h1 : 1 ≤ n) (h2 : n ≤ 2) (hn : a + n ≤ s.size) (hs : s.size ≤ maxLen) :
    Calls Try.prog 55 #[.int .i64 n, .pointer (some ⟨w0.heap.size + 1, 0, none⟩), .pointer (some ⟨w0.heap.size + 1 + 1, 0, none⟩)] w fun e w' => e = .returned (.int .i64 (low s a n)) ∧ HS w0 s (a + n) cs w' := by
  have G := fun W => get_ok s a n false W hs h1 (by omega) hn
  have hl : low s a n < 65536 := Nat.lt_of_lt_of_le (low_lt s a n) (by have : 256 ^ n ≤ 256 ^ 2 := Nat.pow_le_pow_right (by decide) h2; omega)
  unfold maxLen at hs
  change ∀ W, Calls Try.prog 56 #[.string s, .int .i64 a, .int .i64 n, .bool false] W fun e w' => e = .returned (.tuple #[.int .u64 (low s a n), .int .i64 0]) ∧ Below W.heap.size W w' at G
  generalize low s a n = X at *
  have HG := Lib.hid G
  have b0 := h.box.cell 0
  have a0 := h.at_.cell 0
  have fa := h.at_.frozen 0
  have K := Lib.hid h
  clear G h
  go_enter Try.func55, Try.ntmps55
  go_wp2_with fail
  refine (HG.out _).mono ?_
  rintro e w1 ⟨rfl, hq⟩
  have h1 := K.out.on hq
  have b0 := h1.box.cell 0
  have a0 := h1.at_.cell 0
  have fa := h1.at_.frozen 0
  have K1 := Lib.hid (h1.go (a + n))
  clear h1 hq K
  go_wp2_with fail
  go_ret
  refine ⟨rfl, ?_⟩
  have := K1.out
  simpa using this
theorem set7 {w : World} {g : Nat} {t : TypeId} {c0 c1 c2 c3 c4 c5 c6 : Value} (h : Blk w g t #[c0, c1, c2, c3, c4, c5, c6]) (x0 x1 x2 x3 x4 x5 x6 : Value) : Blk (((((((w.setCell ⟨g, 0, none⟩ x0).setCell ⟨g, 1, none⟩ x1).setCell ⟨g, 2, none⟩ x2).setCell ⟨g, 3, none⟩ x3).setCell ⟨g, 4, none⟩ x4).setCell ⟨g, 5, none⟩ x5).setCell ⟨g, 6, none⟩ x6) g t #[x0, x1, x2, x3, x4, x5, x6] :=
  (((((((h.put' 0 x0 (cs' := #[x0, c1, c2, c3, c4, c5, c6]) rfl).put' 1 x1 (cs' := #[x0, x1, c2, c3, c4, c5, c6]) rfl).put' 2 x2 (cs' := #[x0, x1, x2, c3, c4, c5, c6]) rfl).put' 3 x3 (cs' := #[x0, x1, x2, x3, c4, c5, c6]) rfl).put' 4 x4 (cs' := #[x0, x1, x2, x3, x4, c5, c6]) rfl).put' 5 x5 (cs' := #[x0, x1, x2, x3, x4, x5, c6]) rfl).put' 6 x6 (cs' := #[x0, x1, x2, x3, x4, x5, x6]) rfl)
theorem other7 {w : World} {g k : Nat} {t : TypeId} {cs : Array Value} (h : Blk w k t cs) (hk : k ≠ g) (x0 x1 x2 x3 x4 x5 x6 : Value) : Blk (((((((w.setCell ⟨g, 0, none⟩ x0).setCell ⟨g, 1, none⟩ x1).setCell ⟨g, 2, none⟩ x2).setCell ⟨g, 3, none⟩ x3).setCell ⟨g, 4, none⟩ x4).setCell ⟨g, 5, none⟩ x5).setCell ⟨g, 6, none⟩ x6) k t cs :=
  (((((((h.other hk 0 x0).other hk 1 x1).other hk 2 x2).other hk 3 x3).other hk 4 x4).other hk 5 x5).other hk 6 x6)
theorem below7 {B : Nat} {w0 w : World} {g : Nat} (h : Below B w0 w) (hB : B ≤ g) (x0 x1 x2 x3 x4 x5 x6 : Value) : Below B w0 (((((((w.setCell ⟨g, 0, none⟩ x0).setCell ⟨g, 1, none⟩ x1).setCell ⟨g, 2, none⟩ x2).setCell ⟨g, 3, none⟩ x3).setCell ⟨g, 4, none⟩ x4).setCell ⟨g, 5, none⟩ x5).setCell ⟨g, 6, none⟩ x6) :=
  (((((((h.setCell hB x0).setCell hB x1).setCell hB x2).setCell hB x3).setCell hB x4).setCell hB x5).setCell hB x6)
theorem hparse_results (w : World) (tmps : Array Value) (gf : Nat) {r : ByteArray} {n : Int} (h2 : tmps[2]?.getD undef = .pointer (some ⟨gf, 0, none⟩)) (h3 : tmps[3]?.getD undef = .string r) (h4 : tmps[4]?.getD undef = .int .i64 n) (h : Hd)
    (hF : Blk w gf 23 (hdL h)) : (results Try.f10 tmps).run Try.prog w = .ok (.tuple #[.agg (hdL h), .string r, .int .i64 n]) w := by
  have c0 := hF.cell 0
  have c1 := hF.cell 1
  have c2 := hF.cell 2
  have c3 := hF.cell 3
  have c4 := hF.cell 4
  have c5 := hF.cell 5
  have c6 := hF.cell 6
  simp only [hdL] at c0 c1 c2 c3 c4 c5 c6
  simp [results, Try.results10, go_sem, h2, h3, h4, c0, c1, c2, c3, c4, c5, c6, hdL]
/-- The header that a string begins with, and why there is none. -/
def hdE (s : ByteArray) : Int := if s.size < 12 then 100 else if 3 < low s 0 1 then 101 else 0
def hdV (s : ByteArray) : Hd := if hdE s = 0 then ⟨low s 0 1, low s 1 1, low s 2 2, low s 4 2, low s 6 2, low s 8 2, low s 10 2⟩ else .zero
def hdR (s : ByteArray) : ByteArray := if hdE s = 0 then s.extract 12 s.size else ⟨#[]⟩
theorem hparse_short (s : ByteArray) (w : World) (h : s.size < 12) :
    Calls Try.prog 10 #[.string s] w fun e w' => e = .returned (.tuple #[.agg (hdL .zero), .string ⟨#[]⟩, .int .i64 100]) ∧ Below w.heap.size w w' := by
  go_enter Try.func10, Try.ntmps10
  go_wp2_with fail
  refine bodyPost_ret (v := .tuple #[.agg (hdL .zero), .string ⟨#[]⟩, .int .i64 100]) (hparse_results _ _ w.heap.size rfl rfl rfl .zero ?_) rfl ⟨rfl, ?_⟩
  · exact Blk.new w 23 (hdL .zero)
  · exact (Below.refl _ _).alloc (Nat.le_refl _) _
set_option maxRecDepth 100000 in
set_option maxHeartbeats 3200000 in
theorem hparse_long (s : ByteArray) (w : World) (h : 12 ≤ s.size) (hs : s.size ≤ maxLen) :
    Calls Try.prog 10 #[.string s] w fun e w' => (3 < low s 0 1 ∧ e = .returned (.tuple #[.agg (hdL .zero), .string ⟨#[]⟩, .int .i64 101]) ∨ low s 0 1 ≤ 3 ∧ e = .returned (.tuple #[.agg (hdL ⟨low s 0 1, low s 1 1, low s 2 2, low s 4 2, low s 6 2, low s 8 2, low s 10 2⟩), .string (s.extract 12 s.size), .int .i64 0])) ∧ Below w.heap.size w w' := by
  have hsl := hs
  unfold maxLen at hs
  have H0 := Lib.hid (HS.new w s)
  go_enter Try.func10, Try.ntmps10
  go_wp2_with fail
  refine (rdr_any _ _).mono ?_
  rintro e w0 ⟨rfl, rfl⟩
  go_wp2_with fail
  refine (next_hd H0.out 1 (by omega) (by omega) (by omega) hsl).mono ?_
  rintro e w1 ⟨rfl, h1⟩
  have c0 : w1.cell? ⟨w.heap.size + 1 + 1 + 1, 0, none⟩ = some (.int .i64 0) := h1.hb.cell 0
  have c1 : w1.cell? ⟨w.heap.size + 1 + 1 + 1, 1, none⟩ = some (.int .i64 0) := h1.hb.cell 1
  have c2 : w1.cell? ⟨w.heap.size + 1 + 1 + 1, 2, none⟩ = some (.int .i64 0) := h1.hb.cell 2
  have c3 : w1.cell? ⟨w.heap.size + 1 + 1 + 1, 3, none⟩ = some (.int .i64 0) := h1.hb.cell 3
  have c4 : w1.cell? ⟨w.heap.size + 1 + 1 + 1, 4, none⟩ = some (.int .i64 0) := h1.hb.cell 4
  have c5 : w1.cell? ⟨w.heap.size + 1 + 1 + 1, 5, none⟩ = some (.int .i64 0) := h1.hb.cell 5
  have c6 : w1.cell? ⟨w.heap.size + 1 + 1 + 1, 6, none⟩ = some (.int .i64 0) := h1.hb.cell 6
  have K1 := Lib.hid (h1.put 0 (.int .i64 (low s 0 1)) (cs' := #[.int .i64 (low s 0 1), .int .i64 0, .int .i64 0, .int .i64 0, .int .i64 0, .int .i64 0, .int .i64 0]) rfl)
  have e1 := h1.box.cell 0
  have f1 := h1.hb.frozen
  clear h1 H0
  go_wp2_with fail
  refine (next_hd K1.out 1 (by omega) (by omega) (by omega) hsl).mono ?_
  rintro e w2 ⟨rfl, h2⟩
  clear c0 c1 c2 c3 c4 c5 c6
  have c0 : w2.cell? ⟨w.heap.size + 1 + 1 + 1, 0, none⟩ = some (.int .i64 (low s 0 1)) := h2.hb.cell 0
  have c1 : w2.cell? ⟨w.heap.size + 1 + 1 + 1, 1, none⟩ = some (.int .i64 0) := h2.hb.cell 1
  have c2 : w2.cell? ⟨w.heap.size + 1 + 1 + 1, 2, none⟩ = some (.int .i64 0) := h2.hb.cell 2
  have c3 : w2.cell? ⟨w.heap.size + 1 + 1 + 1, 3, none⟩ = some (.int .i64 0) := h2.hb.cell 3
  have c4 : w2.cell? ⟨w.heap.size + 1 + 1 + 1, 4, none⟩ = some (.int .i64 0) := h2.hb.cell 4
  have c5 : w2.cell? ⟨w.heap.size + 1 + 1 + 1, 5, none⟩ = some (.int .i64 0) := h2.hb.cell 5
  have c6 : w2.cell? ⟨w.heap.size + 1 + 1 + 1, 6, none⟩ = some (.int .i64 0) := h2.hb.cell 6
  have K2 := Lib.hid (h2.put 1 (.int .i64 (low s 1 1)) (cs' := #[.int .i64 (low s 0 1), .int .i64 (low s 1 1), .int .i64 0, .int .i64 0, .int .i64 0, .int .i64 0, .int .i64 0]) rfl)
  have e2 := h2.box.cell 0
  have f2 := h2.hb.frozen
  clear h2 K1
  clear e1 f1
  go_wp2_with fail
  refine (next_hd K2.out 2 (by omega) (by omega) (by omega) hsl).mono ?_
  rintro e w3 ⟨rfl, h3⟩
  clear c0 c1 c2 c3 c4 c5 c6
  have c0 : w3.cell? ⟨w.heap.size + 1 + 1 + 1, 0, none⟩ = some (.int .i64 (low s 0 1)) := h3.hb.cell 0
  have c1 : w3.cell? ⟨w.heap.size + 1 + 1 + 1, 1, none⟩ = some (.int .i64 (low s 1 1)) := h3.hb.cell 1
  have c2 : w3.cell? ⟨w.heap.size + 1 + 1 + 1, 2, none⟩ = some (.int .i64 0) := h3.hb.cell 2
  have c3 : w3.cell? ⟨w.heap.size + 1 + 1 + 1, 3, none⟩ = some (.int .i64 0) := h3.hb.cell 3
  have c4 : w3.cell? ⟨w.heap.size + 1 + 1 + 1, 4, none⟩ = some (.int .i64 0) := h3.hb.cell 4
  have c5 : w3.cell? ⟨w.heap.size + 1 + 1 + 1, 5, none⟩ = some (.int .i64 0) := h3.hb.cell 5
  have c6 : w3.cell? ⟨w.heap.size + 1 + 1 + 1, 6, none⟩ = some (.int .i64 0) := h3.hb.cell 6
  have K3 := Lib.hid (h3.put 2 (.int .i64 (low s 2 2)) (cs' := #[.int .i64 (low s 0 1), .int .i64 (low s 1 1), .int .i64 (low s 2 2), .int .i64 0, .int .i64 0, .int .i64 0, .int .i64 0]) rfl)
  have e3 := h3.box.cell 0
  have f3 := h3.hb.frozen
  clear h3 K2
  clear e2 f2
  go_wp2_with fail
  refine (next_hd K3.out 2 (by omega) (by omega) (by omega) hsl).mono ?_
  rintro e w4 ⟨rfl, h4⟩
  clear c0 c1 c2 c3 c4 c5 c6
  have c0 : w4.cell? ⟨w.heap.size + 1 + 1 + 1, 0, none⟩ = some (.int .i64 (low s 0 1)) := h4.hb.cell 0
  have c1 : w4.cell? ⟨w.heap.size + 1 + 1 + 1, 1, none⟩ = some (.int .i64 (low s 1 1)) := h4.hb.cell 1
  have c2 : w4.cell? ⟨w.heap.size + 1 + 1 + 1, 2, none⟩ = some (.int .i64 (low s 2 2)) := h4.hb.cell 2
  have c3 : w4.cell? ⟨w.heap.size + 1 + 1 + 1, 3, none⟩ = some (.int .i64 0) := h4.hb.cell 3
  have c4 : w4.cell? ⟨w.heap.size + 1 + 1 + 1, 4, none⟩ = some (.int .i64 0) := h4.hb.cell 4
  have c5 : w4.cell? ⟨w.heap.size + 1 + 1 + 1, 5, none⟩ = some (.int .i64 0) := h4.hb.cell 5
  have c6 : w4.cell? ⟨w.heap.size + 1 + 1 + 1, 6, none⟩ = some (.int .i64 0) := h4.hb.cell 6
  have K4 := Lib.hid (h4.put 3 (.int .i64 (low s 4 2)) (cs' := #[.int .i64 (low s 0 1), .int .i64 (low s 1 1), .int .i64 (low s 2 2), .int .i64 (low s 4 2), .int .i64 0, .int .i64 0, .int .i64 0]) rfl)
  have e4 := h4.box.cell 0
  have f4 := h4.hb.frozen
  clear h4 K3
  clear e3 f3
  go_wp2_with fail
  refine (next_hd K4.out 2 (by omega) (by omega) (by omega) hsl).mono ?_
  rintro e w5 ⟨rfl, h5⟩
  clear c0 c1 c2 c3 c4 c5 c6
  have c0 : w5.cell? ⟨w.heap.size + 1 + 1 + 1, 0, none⟩ = some (.int .i64 (low s 0 1)) := h5.hb.cell 0
  have c1 : w5.cell? ⟨w.heap.size + 1 + 1 + 1, 1, none⟩ = some (.int .i64 (low s 1 1)) := h5.hb.cell 1
  have c2 : w5.cell? ⟨w.heap.size + 1 + 1 + 1, 2, none⟩ = some (.int .i64 (low s 2 2)) := h5.hb.cell 2
  have c3 : w5.cell? ⟨w.heap.size + 1 + 1 + 1, 3, none⟩ = some (.int .i64 (low s 4 2)) := h5.hb.cell 3
  have c4 : w5.cell? ⟨w.heap.size + 1 + 1 + 1, 4, none⟩ = some (.int .i64 0) := h5.hb.cell 4
  have c5 : w5.cell? ⟨w.heap.size + 1 + 1 + 1, 5, none⟩ = some (.int .i64 0) := h5.hb.cell 5
  have c6 : w5.cell? ⟨w.heap.size + 1 + 1 + 1, 6, none⟩ = some (.int .i64 0) := h5.hb.cell 6
  have K5 := Lib.hid (h5.put 4 (.int .i64 (low s 6 2)) (cs' := #[.int .i64 (low s 0 1), .int .i64 (low s 1 1), .int .i64 (low s 2 2), .int .i64 (low s 4 2), .int .i64 (low s 6 2), .int .i64 0, .int .i64 0]) rfl)
  have e5 := h5.box.cell 0
  have f5 := h5.hb.frozen
  clear h5 K4
  clear e4 f4
  go_wp2_with fail
  refine (next_hd K5.out 2 (by omega) (by omega) (by omega) hsl).mono ?_
  rintro e w6 ⟨rfl, h6⟩
  clear c0 c1 c2 c3 c4 c5 c6
  have c0 : w6.cell? ⟨w.heap.size + 1 + 1 + 1, 0, none⟩ = some (.int .i64 (low s 0 1)) := h6.hb.cell 0
  have c1 : w6.cell? ⟨w.heap.size + 1 + 1 + 1, 1, none⟩ = some (.int .i64 (low s 1 1)) := h6.hb.cell 1
  have c2 : w6.cell? ⟨w.heap.size + 1 + 1 + 1, 2, none⟩ = some (.int .i64 (low s 2 2)) := h6.hb.cell 2
  have c3 : w6.cell? ⟨w.heap.size + 1 + 1 + 1, 3, none⟩ = some (.int .i64 (low s 4 2)) := h6.hb.cell 3
  have c4 : w6.cell? ⟨w.heap.size + 1 + 1 + 1, 4, none⟩ = some (.int .i64 (low s 6 2)) := h6.hb.cell 4
  have c5 : w6.cell? ⟨w.heap.size + 1 + 1 + 1, 5, none⟩ = some (.int .i64 0) := h6.hb.cell 5
  have c6 : w6.cell? ⟨w.heap.size + 1 + 1 + 1, 6, none⟩ = some (.int .i64 0) := h6.hb.cell 6
  have K6 := Lib.hid (h6.put 5 (.int .i64 (low s 8 2)) (cs' := #[.int .i64 (low s 0 1), .int .i64 (low s 1 1), .int .i64 (low s 2 2), .int .i64 (low s 4 2), .int .i64 (low s 6 2), .int .i64 (low s 8 2), .int .i64 0]) rfl)
  have e6 := h6.box.cell 0
  have f6 := h6.hb.frozen
  clear h6 K5
  clear e5 f5
  go_wp2_with fail
  refine (next_hd K6.out 2 (by omega) (by omega) (by omega) hsl).mono ?_
  rintro e w7 ⟨rfl, h7⟩
  have r0 : w7.cell? ⟨w.heap.size, 0, none⟩ = some (.int .i64 0) := h7.res.cell 0
  have r1 : w7.cell? ⟨w.heap.size, 1, none⟩ = some (.int .i64 0) := h7.res.cell 1
  have r2 : w7.cell? ⟨w.heap.size, 2, none⟩ = some (.int .i64 0) := h7.res.cell 2
  have r3 : w7.cell? ⟨w.heap.size, 3, none⟩ = some (.int .i64 0) := h7.res.cell 3
  have r4 : w7.cell? ⟨w.heap.size, 4, none⟩ = some (.int .i64 0) := h7.res.cell 4
  have r5 : w7.cell? ⟨w.heap.size, 5, none⟩ = some (.int .i64 0) := h7.res.cell 5
  have r6 : w7.cell? ⟨w.heap.size, 6, none⟩ = some (.int .i64 0) := h7.res.cell 6
  have fr := h7.res.frozen
  clear c0 c1 c2 c3 c4 c5 c6
  have c0 : w7.cell? ⟨w.heap.size + 1 + 1 + 1, 0, none⟩ = some (.int .i64 (low s 0 1)) := h7.hb.cell 0
  have c1 : w7.cell? ⟨w.heap.size + 1 + 1 + 1, 1, none⟩ = some (.int .i64 (low s 1 1)) := h7.hb.cell 1
  have c2 : w7.cell? ⟨w.heap.size + 1 + 1 + 1, 2, none⟩ = some (.int .i64 (low s 2 2)) := h7.hb.cell 2
  have c3 : w7.cell? ⟨w.heap.size + 1 + 1 + 1, 3, none⟩ = some (.int .i64 (low s 4 2)) := h7.hb.cell 3
  have c4 : w7.cell? ⟨w.heap.size + 1 + 1 + 1, 4, none⟩ = some (.int .i64 (low s 6 2)) := h7.hb.cell 4
  have c5 : w7.cell? ⟨w.heap.size + 1 + 1 + 1, 5, none⟩ = some (.int .i64 (low s 8 2)) := h7.hb.cell 5
  have c6 : w7.cell? ⟨w.heap.size + 1 + 1 + 1, 6, none⟩ = some (.int .i64 0) := h7.hb.cell 6
  have K7 := Lib.hid (h7.put 6 (.int .i64 (low s 10 2)) (cs' := #[.int .i64 (low s 0 1), .int .i64 (low s 1 1), .int .i64 (low s 2 2), .int .i64 (low s 4 2), .int .i64 (low s 6 2), .int .i64 (low s 8 2), .int .i64 (low s 10 2)]) rfl)
  have e7 := h7.box.cell 0
  have f7 := h7.hb.frozen
  clear h7 K6
  clear e6 f6
  have b0 := K7.out.res
  have bB := K7.out.below
  have hk := K7.out
  have l0 := Lib.hid (low_lt s 0 1)
  by_cases h3 : 3 < low s 0 1
  · have e3 : ((low s 0 1 : Int) > 3) := by omega
    clear hk
    go_wp2_with fail
    refine bodyPost_ret (v := .tuple #[.agg (hdL .zero), .string ⟨#[]⟩, .int .i64 101]) (hparse_results _ _ w.heap.size rfl rfl rfl .zero ?_) rfl ⟨.inl ⟨h3, rfl⟩, ?_⟩
    · exact set7 (K7.out.res) (.int .i64 0) (.int .i64 0) (.int .i64 0) (.int .i64 0) (.int .i64 0) (.int .i64 0) (.int .i64 0)
    · exact below7 K7.out.below (Nat.le_refl _) (.int .i64 0) (.int .i64 0) (.int .i64 0) (.int .i64 0) (.int .i64 0) (.int .i64 0) (.int .i64 0)
  · have e3 : ¬ ((low s 0 1 : Int) > 3) := by omega
    clear hk
    go_wp2_with fail
    go_region
    go_wp2_with fail
    have hZ := set7 K7.out.res (.int .i64 (low s 0 1)) (.int .i64 (low s 1 1)) (.int .i64 (low s 2 2)) (.int .i64 (low s 4 2)) (.int .i64 (low s 6 2)) (.int .i64 (low s 8 2)) (.int .i64 (low s 10 2))
    refine bodyPost_ret (v := .tuple #[.agg (hdL ⟨low s 0 1, low s 1 1, low s 2 2, low s 4 2, low s 6 2, low s 8 2, low s 10 2⟩), .string (s.extract 12 s.size), .int .i64 0]) (hparse_results _ _ w.heap.size rfl rfl rfl ⟨low s 0 1, low s 1 1, low s 2 2, low s 4 2, low s 6 2, low s 8 2, low s 10 2⟩ ?_) rfl ⟨.inr ⟨by omega, rfl⟩, ?_⟩
    · exact hZ.drew
    · exact (below7 K7.out.below (Nat.le_refl _) (.int .i64 (low s 0 1)) (.int .i64 (low s 1 1)) (.int .i64 (low s 2 2)) (.int .i64 (low s 4 2)) (.int .i64 (low s 6 2)) (.int .i64 (low s 8 2)) (.int .i64 (low s 10 2))).drew
theorem hparse_any (s : ByteArray) (w : World) (hs : s.size ≤ maxLen) :
    Calls Try.prog 10 #[.string s] w fun e w' => e = .returned (.tuple #[.agg (hdL (hdV s)), .string (hdR s), .int .i64 (hdE s)]) ∧ Below w.heap.size w w' := by
  by_cases h : s.size < 12
  · have e : hdE s = 100 := by rw [hdE, if_pos h]
    rw [hdV, hdR, e, if_neg (by decide), if_neg (by decide)]
    exact hparse_short s w h
  · refine (hparse_long s w (by omega) hs).mono ?_
    rintro e w' ⟨h1, h2⟩
    refine ⟨?_, h2⟩
    rcases h1 with ⟨h3, rfl⟩ | ⟨h3, rfl⟩
    · have e : hdE s = 101 := by rw [hdE, if_neg h, if_pos h3]
      rw [hdV, hdR, e, if_neg (by decide), if_neg (by decide)]
    · have e : hdE s = 0 := by rw [hdE, if_neg h, if_neg (by omega)]
      rw [hdV, hdR, e, if_pos rfl, if_pos rfl]
end Go.Proofs.Ytalkpllmcigjnaa
namespace Go.Proofs.Ytalkpllmcigjnaa
open Go.RowKit

theorem in57 (v m : Int) (w : World) : Calls Try.prog 57 #[.int .i64 v, .int .i64 m] w fun e w' => e = .returned (.bool (inB v m)) ∧ w = w' := by
  by_cases h : 0 ≤ v
  · go_enter Try.func57, Try.ntmps57
    go_wp2
    go_ret
    exact ⟨ret_bool (by simp [inB, h]), rfl⟩
  · go_enter Try.func57, Try.ntmps57
    go_wp2
    go_ret
    exact ⟨ret_bool (by simp [inB]; omega), rfl⟩
/-- The bytes of a number, the lowest first. -/
def lbs (v : Int) (n : Nat) : ByteArray := ⟨(enc v.toNat n false).toArray⟩
theorem lbs_size (v : Int) (n : Nat) : (lbs v n).size = n := by
  show (enc v.toNat n false).toArray.size = n
  rw [List.size_toArray, enc_length]
theorem hput_1 (v : Int) (w : World) (h0 : 0 ≤ v) (h1 : v < 256) :
    Calls Try.prog 25 #[.int .i64 v, .int .i64 1] w fun e w' => e = .returned (.string (lbs v 1)) ∧ Below w.heap.size w w' := by
  have P : ∀ W, Calls Try.prog 58 #[.int .u64 v, .int .i64 1, .bool false] W fun e w' => e = .returned (.tuple #[.string (lbs v 1), .int .i64 0]) ∧ Below W.heap.size W w' := by
    intro W
    obtain ⟨m, rfl⟩ := Int.eq_ofNat_of_zero_le h0
    exact put_ok m 1 false W (by omega) (by omega) (by omega)
  have HP := Lib.hid P
  clear P
  generalize lbs v 1 = T at *
  go_enter Try.func25, Try.ntmps25
  go_wp2_with (go_at_call 58; (with_reducible refine (HP.out _).mono ?_); rintro e w' ⟨rfl, hb⟩)
  go_ret
  exact ⟨rfl, hb⟩
theorem hput_2 (v : Int) (w : World) (h0 : 0 ≤ v) (h1 : v < 65536) :
    Calls Try.prog 25 #[.int .i64 v, .int .i64 2] w fun e w' => e = .returned (.string (lbs v 2)) ∧ Below w.heap.size w w' := by
  have P : ∀ W, Calls Try.prog 58 #[.int .u64 v, .int .i64 2, .bool false] W fun e w' => e = .returned (.tuple #[.string (lbs v 2), .int .i64 0]) ∧ Below W.heap.size W w' := by
    intro W
    obtain ⟨m, rfl⟩ := Int.eq_ofNat_of_zero_le h0
    exact put_ok m 2 false W (by omega) (by omega) (by omega)
  have HP := Lib.hid P
  clear P
  generalize lbs v 2 = T at *
  go_enter Try.func25, Try.ntmps25
  go_wp2_with (go_at_call 58; (with_reducible refine (HP.out _).mono ?_); rintro e w' ⟨rfl, hb⟩)
  go_ret
  exact ⟨rfl, hb⟩
set_option maxHeartbeats 3200000 in
theorem isH_walk (flags gso len siz start off count : Int) (w : World) (b0 b1 b2 b3 b4 b5 b6 : Bool)
    (A0 : ∀ W, Calls Try.prog 57 #[.int .i64 flags, .int .i64 3] W fun e w' => e = .returned (.bool b0) ∧ W = w')
    (A1 : ∀ W, Calls Try.prog 57 #[.int .i64 gso, .int .i64 255] W fun e w' => e = .returned (.bool b1) ∧ W = w')
    (A2 : ∀ W, Calls Try.prog 57 #[.int .i64 len, .int .i64 65535] W fun e w' => e = .returned (.bool b2) ∧ W = w')
    (A3 : ∀ W, Calls Try.prog 57 #[.int .i64 siz, .int .i64 65535] W fun e w' => e = .returned (.bool b3) ∧ W = w')
    (A4 : ∀ W, Calls Try.prog 57 #[.int .i64 start, .int .i64 65535] W fun e w' => e = .returned (.bool b4) ∧ W = w')
    (A5 : ∀ W, Calls Try.prog 57 #[.int .i64 off, .int .i64 65535] W fun e w' => e = .returned (.bool b5) ∧ W = w')
    (A6 : ∀ W, Calls Try.prog 57 #[.int .i64 count, .int .i64 65535] W fun e w' => e = .returned (.bool b6) ∧ W = w') :
    Calls Try.prog 24 #[.agg #[.int .i64 flags, .int .i64 gso, .int .i64 len, .int .i64 siz, .int .i64 start, .int .i64 off, .int .i64 count]] w fun e w' => e = .returned (.bool (b0 && b1 && b2 && b3 && b4 && b5 && b6)) ∧ Below w.heap.size w w' := by
  have H0 := Lib.hid A0
  have H1 := Lib.hid A1
  have H2 := Lib.hid A2
  have H3 := Lib.hid A3
  have H4 := Lib.hid A4
  have H5 := Lib.hid A5
  have H6 := Lib.hid A6
  clear A0 A1 A2 A3 A4 A5 A6
  cases b0
  · go_enter Try.func24, Try.ntmps24
    go_wp2_with (go_at_call 57; (first | (with_reducible refine (H0.out _).mono ?_) | (with_reducible refine (H1.out _).mono ?_) | (with_reducible refine (H2.out _).mono ?_) | (with_reducible refine (H3.out _).mono ?_) | (with_reducible refine (H4.out _).mono ?_) | (with_reducible refine (H5.out _).mono ?_) | (with_reducible refine (H6.out _).mono ?_)); rintro e w' ⟨rfl, rfl⟩)
    go_ret
    exact ⟨rfl, (Below.refl _ _).alloc (Nat.le_refl _) _⟩
  cases b1
  · go_enter Try.func24, Try.ntmps24
    go_wp2_with (go_at_call 57; (first | (with_reducible refine (H0.out _).mono ?_) | (with_reducible refine (H1.out _).mono ?_) | (with_reducible refine (H2.out _).mono ?_) | (with_reducible refine (H3.out _).mono ?_) | (with_reducible refine (H4.out _).mono ?_) | (with_reducible refine (H5.out _).mono ?_) | (with_reducible refine (H6.out _).mono ?_)); rintro e w' ⟨rfl, rfl⟩)
    go_ret
    exact ⟨rfl, (Below.refl _ _).alloc (Nat.le_refl _) _⟩
  cases b2
  · go_enter Try.func24, Try.ntmps24
    go_wp2_with (go_at_call 57; (first | (with_reducible refine (H0.out _).mono ?_) | (with_reducible refine (H1.out _).mono ?_) | (with_reducible refine (H2.out _).mono ?_) | (with_reducible refine (H3.out _).mono ?_) | (with_reducible refine (H4.out _).mono ?_) | (with_reducible refine (H5.out _).mono ?_) | (with_reducible refine (H6.out _).mono ?_)); rintro e w' ⟨rfl, rfl⟩)
    go_ret
    exact ⟨rfl, (Below.refl _ _).alloc (Nat.le_refl _) _⟩
  cases b3
  · go_enter Try.func24, Try.ntmps24
    go_wp2_with (go_at_call 57; (first | (with_reducible refine (H0.out _).mono ?_) | (with_reducible refine (H1.out _).mono ?_) | (with_reducible refine (H2.out _).mono ?_) | (with_reducible refine (H3.out _).mono ?_) | (with_reducible refine (H4.out _).mono ?_) | (with_reducible refine (H5.out _).mono ?_) | (with_reducible refine (H6.out _).mono ?_)); rintro e w' ⟨rfl, rfl⟩)
    go_ret
    exact ⟨rfl, (Below.refl _ _).alloc (Nat.le_refl _) _⟩
  cases b4
  · go_enter Try.func24, Try.ntmps24
    go_wp2_with (go_at_call 57; (first | (with_reducible refine (H0.out _).mono ?_) | (with_reducible refine (H1.out _).mono ?_) | (with_reducible refine (H2.out _).mono ?_) | (with_reducible refine (H3.out _).mono ?_) | (with_reducible refine (H4.out _).mono ?_) | (with_reducible refine (H5.out _).mono ?_) | (with_reducible refine (H6.out _).mono ?_)); rintro e w' ⟨rfl, rfl⟩)
    go_ret
    exact ⟨rfl, (Below.refl _ _).alloc (Nat.le_refl _) _⟩
  cases b5
  · go_enter Try.func24, Try.ntmps24
    go_wp2_with (go_at_call 57; (first | (with_reducible refine (H0.out _).mono ?_) | (with_reducible refine (H1.out _).mono ?_) | (with_reducible refine (H2.out _).mono ?_) | (with_reducible refine (H3.out _).mono ?_) | (with_reducible refine (H4.out _).mono ?_) | (with_reducible refine (H5.out _).mono ?_) | (with_reducible refine (H6.out _).mono ?_)); rintro e w' ⟨rfl, rfl⟩)
    go_ret
    exact ⟨rfl, (Below.refl _ _).alloc (Nat.le_refl _) _⟩
  go_enter Try.func24, Try.ntmps24
  go_wp2_with (go_at_call 57; (first | (with_reducible refine (H0.out _).mono ?_) | (with_reducible refine (H1.out _).mono ?_) | (with_reducible refine (H2.out _).mono ?_) | (with_reducible refine (H3.out _).mono ?_) | (with_reducible refine (H4.out _).mono ?_) | (with_reducible refine (H5.out _).mono ?_) | (with_reducible refine (H6.out _).mono ?_)); rintro e w' ⟨rfl, rfl⟩)
  go_ret
  exact ⟨rfl, (Below.refl _ _).alloc (Nat.le_refl _) _⟩
def okH (h : Hd) : Bool := inB h.flags 3 && inB h.gso 255 && inB h.len 65535 && inB h.siz 65535 && inB h.start 65535 && inB h.off 65535 && inB h.count 65535
theorem isH_any (h : Hd) (w : World) : Calls Try.prog 24 #[.agg (hdL h)] w fun e w' => e = .returned (.bool (okH h)) ∧ Below w.heap.size w w' :=
  isH_walk _ _ _ _ _ _ _ w _ _ _ _ _ _ _ (in57 _ _) (in57 _ _) (in57 _ _) (in57 _ _) (in57 _ _) (in57 _ _) (in57 _ _)
def verV (t : Int) : Int := if t = 2048 then 4 else if t = 34525 then 6 else 0
theorem ver_any (t : Int) (w : World) : Calls Try.prog 67 #[.int .i64 t] w fun e w' => e = .returned (.int .i64 (verV t)) ∧ w = w' := by
  unfold verV
  by_cases h4 : t = 2048
  · subst h4
    go_enter Try.func67, Try.ntmps67
    go_wp2
    go_ret
    exact ⟨rfl, rfl⟩
  · rw [if_neg h4]
    have e4 : (t == 2048) = false := by simpa using h4
    by_cases h6 : t = 34525
    · subst h6
      go_enter Try.func67, Try.ntmps67
      go_wp2
      go_ret
      exact ⟨rfl, rfl⟩
    · rw [if_neg h6]
      have e6 : (t == 34525) = false := by simpa using h6
      go_enter Try.func67, Try.ntmps67
      go_wp2
      go_ret
      exact ⟨rfl, rfl⟩
theorem hAt_any (v : Int) (src dst : ByteArray) (proto hops cls id flags off label : Int) (opt body : ByteArray) (w : World) : Calls Try.prog 30 #[.agg #[.int .i64 v, .string src, .string dst, .int .i64 proto, .int .i64 hops, .int .i64 cls, .int .i64 id, .int .i64 flags, .int .i64 off, .int .i64 label, .string opt, .string body]] w fun e w' => e = .returned (.int .i64 (atV proto)) ∧ Below w.heap.size w w' := by
  unfold atV
  by_cases h : proto = 6
  · subst h
    go_enter Try.func30, Try.ntmps30
    go_wp2
    go_ret
    exact ⟨rfl, (Below.refl _ _).alloc (Nat.le_refl _) _⟩
  · rw [if_neg h]
    have e : (proto == 6) = false := by simpa using h
    go_enter Try.func30, Try.ntmps30
    go_wp2
    go_ret
    exact ⟨rfl, (Below.refl _ _).alloc (Nat.le_refl _) _⟩
theorem hd_cells {w0 w : World} {flags gso len siz start off count : Int} (h : Held w0 23 #[.int .i64 flags, .int .i64 gso, .int .i64 len, .int .i64 siz, .int .i64 start, .int .i64 off, .int .i64 count] w) : w.cell? ⟨w0.heap.size, 0, none⟩ = some (.int .i64 flags) ∧ w.cell? ⟨w0.heap.size, 1, none⟩ = some (.int .i64 gso) ∧ w.cell? ⟨w0.heap.size, 2, none⟩ = some (.int .i64 len) ∧ w.cell? ⟨w0.heap.size, 3, none⟩ = some (.int .i64 siz) ∧ w.cell? ⟨w0.heap.size, 4, none⟩ = some (.int .i64 start) ∧ w.cell? ⟨w0.heap.size, 5, none⟩ = some (.int .i64 off) ∧ w.cell? ⟨w0.heap.size, 6, none⟩ = some (.int .i64 count) :=
  ⟨h.blk.cell 0, h.blk.cell 1, h.blk.cell 2, h.blk.cell 3, h.blk.cell 4, h.blk.cell 5, h.blk.cell 6⟩
theorem hC_here {w w1 : World} {flags gso len siz start off count : Int} (h : Held w 23 #[.int .i64 flags, .int .i64 gso, .int .i64 len, .int .i64 siz, .int .i64 start, .int .i64 off, .int .i64 count] w1) : (w1.drew.cell? ⟨w.heap.size, 0, none⟩ = some (.int .i64 flags) ∧ w1.drew.cell? ⟨w.heap.size, 1, none⟩ = some (.int .i64 gso) ∧ w1.drew.cell? ⟨w.heap.size, 2, none⟩ = some (.int .i64 len) ∧ w1.drew.cell? ⟨w.heap.size, 3, none⟩ = some (.int .i64 siz) ∧ w1.drew.cell? ⟨w.heap.size, 4, none⟩ = some (.int .i64 start) ∧ w1.drew.cell? ⟨w.heap.size, 5, none⟩ = some (.int .i64 off) ∧ w1.drew.cell? ⟨w.heap.size, 6, none⟩ = some (.int .i64 count)) ∧ Held w 23 #[.int .i64 flags, .int .i64 gso, .int .i64 len, .int .i64 siz, .int .i64 start, .int .i64 off, .int .i64 count] w1.drew :=
  ⟨hd_cells h.drew, h.drew⟩
theorem hd_next {w w1 w' : World} {flags gso len siz start off count : Int} (h : (w1.cell? ⟨w.heap.size, 0, none⟩ = some (.int .i64 flags) ∧ w1.cell? ⟨w.heap.size, 1, none⟩ = some (.int .i64 gso) ∧ w1.cell? ⟨w.heap.size, 2, none⟩ = some (.int .i64 len) ∧ w1.cell? ⟨w.heap.size, 3, none⟩ = some (.int .i64 siz) ∧ w1.cell? ⟨w.heap.size, 4, none⟩ = some (.int .i64 start) ∧ w1.cell? ⟨w.heap.size, 5, none⟩ = some (.int .i64 off) ∧ w1.cell? ⟨w.heap.size, 6, none⟩ = some (.int .i64 count)) ∧ Held w 23 #[.int .i64 flags, .int .i64 gso, .int .i64 len, .int .i64 siz, .int .i64 start, .int .i64 off, .int .i64 count] w1) (hq : Below w1.heap.size w1 w') : (w'.cell? ⟨w.heap.size, 0, none⟩ = some (.int .i64 flags) ∧ w'.cell? ⟨w.heap.size, 1, none⟩ = some (.int .i64 gso) ∧ w'.cell? ⟨w.heap.size, 2, none⟩ = some (.int .i64 len) ∧ w'.cell? ⟨w.heap.size, 3, none⟩ = some (.int .i64 siz) ∧ w'.cell? ⟨w.heap.size, 4, none⟩ = some (.int .i64 start) ∧ w'.cell? ⟨w.heap.size, 5, none⟩ = some (.int .i64 off) ∧ w'.cell? ⟨w.heap.size, 6, none⟩ = some (.int .i64 count)) ∧ Held w 23 #[.int .i64 flags, .int .i64 gso, .int .i64 len, .int .i64 siz, .int .i64 start, .int .i64 off, .int .i64 count] w' :=
  ⟨hd_cells (h.2.next hq), h.2.next hq⟩
set_option maxRecDepth 100000 in
set_option maxHeartbeats 3200000 in
theorem hbuild_good (flags gso len siz start off count : Int) (w : World) (T0 T1 T2 T3 T4 T5 T6 : ByteArray) (A : ∀ W, Calls Try.prog 24 #[.agg #[.int .i64 flags, .int .i64 gso, .int .i64 len, .int .i64 siz, .int .i64 start, .int .i64 off, .int .i64 count]] W fun e w' => e = .returned (.bool true) ∧ Below W.heap.size W w')
    (A0 : ∀ W, Calls Try.prog 25 #[.int .i64 flags, .int .i64 1] W fun e w' => e = .returned (.string T0) ∧ Below W.heap.size W w') (s0 : T0.size ≤ 2)
    (A1 : ∀ W, Calls Try.prog 25 #[.int .i64 gso, .int .i64 1] W fun e w' => e = .returned (.string T1) ∧ Below W.heap.size W w') (s1 : T1.size ≤ 2)
    (A2 : ∀ W, Calls Try.prog 25 #[.int .i64 len, .int .i64 2] W fun e w' => e = .returned (.string T2) ∧ Below W.heap.size W w') (s2 : T2.size ≤ 2)
    (A3 : ∀ W, Calls Try.prog 25 #[.int .i64 siz, .int .i64 2] W fun e w' => e = .returned (.string T3) ∧ Below W.heap.size W w') (s3 : T3.size ≤ 2)
    (A4 : ∀ W, Calls Try.prog 25 #[.int .i64 start, .int .i64 2] W fun e w' => e = .returned (.string T4) ∧ Below W.heap.size W w') (s4 : T4.size ≤ 2)
    (A5 : ∀ W, Calls Try.prog 25 #[.int .i64 off, .int .i64 2] W fun e w' => e = .returned (.string T5) ∧ Below W.heap.size W w') (s5 : T5.size ≤ 2)
    (A6 : ∀ W, Calls Try.prog 25 #[.int .i64 count, .int .i64 2] W fun e w' => e = .returned (.string T6) ∧ Below W.heap.size W w') (s6 : T6.size ≤ 2) :
    Calls Try.prog 12 #[.agg #[.int .i64 flags, .int .i64 gso, .int .i64 len, .int .i64 siz, .int .i64 start, .int .i64 off, .int .i64 count]] w fun e w' => e = .returned (.tuple #[.string (T0 ++ T1 ++ T2 ++ T3 ++ T4 ++ T5 ++ T6), .int .i64 0]) ∧ Below w.heap.size w w' := by
  have HA := Lib.hid A
  have H0 := Lib.hid A0
  have H1 := Lib.hid A1
  have H2 := Lib.hid A2
  have H3 := Lib.hid A3
  have H4 := Lib.hid A4
  have H5 := Lib.hid A5
  have H6 := Lib.hid A6
  clear A A0 A1 A2 A3 A4 A5 A6
  have z1 : ¬ 9223372036854775807 < T0.size + T1.size := by omega
  have z2 : ¬ 9223372036854775807 < T0.size + T1.size + T2.size := by omega
  have z3 : ¬ 9223372036854775807 < T0.size + T1.size + T2.size + T3.size := by omega
  have z4 : ¬ 9223372036854775807 < T0.size + T1.size + T2.size + T3.size + T4.size := by omega
  have z5 : ¬ 9223372036854775807 < T0.size + T1.size + T2.size + T3.size + T4.size + T5.size := by omega
  have z6 : ¬ 9223372036854775807 < T0.size + T1.size + T2.size + T3.size + T4.size + T5.size + T6.size := by omega
  go_enter Try.func12, Try.ntmps12
  go_wp2_with fail
  refine (HA.out _).mono ?_
  rintro e w1 ⟨rfl, hq⟩
  have hS := (Held.new w 23 #[.int .i64 flags, .int .i64 gso, .int .i64 len, .int .i64 siz, .int .i64 start, .int .i64 off, .int .i64 count]).next hq
  have hC := hd_cells hS
  clear hq
  go_wp2_with fail
  have c0 := hC_here hS
  go_region_held3 (fun w' => (w'.cell? ⟨w.heap.size, 0, none⟩ = some (.int .i64 flags) ∧ w'.cell? ⟨w.heap.size, 1, none⟩ = some (.int .i64 gso) ∧ w'.cell? ⟨w.heap.size, 2, none⟩ = some (.int .i64 len) ∧ w'.cell? ⟨w.heap.size, 3, none⟩ = some (.int .i64 siz) ∧ w'.cell? ⟨w.heap.size, 4, none⟩ = some (.int .i64 start) ∧ w'.cell? ⟨w.heap.size, 5, none⟩ = some (.int .i64 off) ∧ w'.cell? ⟨w.heap.size, 6, none⟩ = some (.int .i64 count)) ∧ Held w 23 #[.int .i64 flags, .int .i64 gso, .int .i64 len, .int .i64 siz, .int .i64 start, .int .i64 off, .int .i64 count] w')
    (first | exact c0 | assumption | exact hd_next (by assumption) hq)
    (first | (go_at_call 25; (first | (with_reducible refine (H0.out _).mono ?_) | (with_reducible refine (H1.out _).mono ?_) | (with_reducible refine (H2.out _).mono ?_) | (with_reducible refine (H3.out _).mono ?_) | (with_reducible refine (H4.out _).mono ?_) | (with_reducible refine (H5.out _).mono ?_) | (with_reducible refine (H6.out _).mono ?_)); rintro e w' ⟨rfl, hq⟩))
  all_goals
    rename_i hH
    go_wp2
    go_ret2
    exact ⟨rfl, hH.2.below⟩
theorem hbuild_bad (flags gso len siz start off count : Int) (w : World) (A : ∀ W, Calls Try.prog 24 #[.agg #[.int .i64 flags, .int .i64 gso, .int .i64 len, .int .i64 siz, .int .i64 start, .int .i64 off, .int .i64 count]] W fun e w' => e = .returned (.bool false) ∧ Below W.heap.size W w') :
    Calls Try.prog 12 #[.agg #[.int .i64 flags, .int .i64 gso, .int .i64 len, .int .i64 siz, .int .i64 start, .int .i64 off, .int .i64 count]] w fun e w' => e = .returned (.tuple #[.string ⟨#[]⟩, .int .i64 101]) ∧ Below w.heap.size w w' := by
  have HA := Lib.hid A
  clear A
  go_enter Try.func12, Try.ntmps12
  go_wp2_with fail
  refine (HA.out _).mono ?_
  rintro e w1 ⟨rfl, hq⟩
  have hS := (Held.new w 23 #[.int .i64 flags, .int .i64 gso, .int .i64 len, .int .i64 siz, .int .i64 start, .int .i64 off, .int .i64 count]).next hq
  clear hq
  go_wp2_with fail
  go_ret2
  exact ⟨rfl, hS.below⟩
/-- The bytes of a header, and why there are none. -/
def hdS (h : Hd) : ByteArray := if okH h = true then lbs h.flags 1 ++ lbs h.gso 1 ++ lbs h.len 2 ++ lbs h.siz 2 ++ lbs h.start 2 ++ lbs h.off 2 ++ lbs h.count 2 else ⟨#[]⟩
def hdF (h : Hd) : Int := if okH h = true then 0 else 101
theorem okH_iff {h : Hd} : okH h = true ↔ 0 ≤ h.flags ∧ h.flags ≤ 3 ∧ 0 ≤ h.gso ∧ h.gso ≤ 255 ∧ 0 ≤ h.len ∧ h.len ≤ 65535 ∧ 0 ≤ h.siz ∧ h.siz ≤ 65535 ∧ 0 ≤ h.start ∧ h.start ≤ 65535 ∧ 0 ≤ h.off ∧ h.off ≤ 65535 ∧ 0 ≤ h.count ∧ h.count ≤ 65535 := by
  simp only [okH, Bool.and_eq_true, inB, decide_eq_true_eq, and_assoc]
theorem hbuild_any (h : Hd) (w : World) : Calls Try.prog 12 #[.agg (hdL h)] w fun e w' => e = .returned (.tuple #[.string (hdS h), .int .i64 (hdF h)]) ∧ Below w.heap.size w w' := by
  have A := fun W => isH_any h W
  cases k : okH h
  · rw [k] at A
    rw [hdS, hdF, k, if_neg (by decide), if_neg (by decide)]
    exact hbuild_bad _ _ _ _ _ _ _ w A
  · rw [k] at A
    rw [hdS, hdF, k, if_pos rfl, if_pos rfl]
    have g := okH_iff.1 k
    refine hbuild_good _ _ _ _ _ _ _ w _ _ _ _ _ _ _ A (fun W => hput_1 _ W (by omega) (by omega)) (by rw [lbs_size]; omega) (fun W => hput_1 _ W (by omega) (by omega)) (by rw [lbs_size]; omega) (fun W => hput_2 _ W (by omega) (by omega)) (by rw [lbs_size]; omega) (fun W => hput_2 _ W (by omega) (by omega)) (by rw [lbs_size]; omega) (fun W => hput_2 _ W (by omega) (by omega)) (by rw [lbs_size]; omega) (fun W => hput_2 _ W (by omega) (by omega)) (by rw [lbs_size]; omega) (fun W => hput_2 _ W (by omega) (by omega)) (by rw [lbs_size]; omega)
end Go.Proofs.Ytalkpllmcigjnaa
namespace Go.Proofs.Ytalkpllmcigjnaa
open Go.RowKit

/-- May a string be completed there? -/
def comB2 (s : ByteArray) (a o : Int) : Bool := inB a s.size && inB o s.size && decide (a + o + 2 ≤ s.size)
def comE (s : ByteArray) (a o : Int) : Int := if comB2 s a o = true then 0 else 1
def comS (s : ByteArray) (a o : Int) : ByteArray := if comB2 s a o = true then withS s (a + o).toNat (segSum (s.extract a.toNat s.size)) else ⟨#[]⟩
theorem complete_out (s : ByteArray) (a o : Int) (w : World) (h : (inB a s.size && inB o s.size) = false) :
    Calls Try.prog 26 #[.string s, .int .i64 a, .int .i64 o] w fun e w' => e = .returned (.tuple #[.string ⟨#[]⟩, .int .i64 1]) ∧ Below w.heap.size w w' := by
  have A1 := in58 a s.size
  have A2 := in58 o s.size
  generalize inB a s.size = b1 at *
  generalize inB o s.size = b2 at *
  have H1 := Lib.hid A1
  have H2 := Lib.hid A2
  clear A1 A2
  cases b1
  · go_enter Try.func26, Try.ntmps26
    go_wp2_with (go_at_call 59; (with_reducible refine (H1.out _).mono ?_); rintro e w' ⟨rfl, rfl⟩)
    go_ret2
    exact ⟨rfl, Below.refl _ _⟩
  · obtain rfl : b2 = false := by simpa using h
    go_enter Try.func26, Try.ntmps26
    go_wp2_with (go_at_call 59; (first | (with_reducible refine (H1.out _).mono ?_) | (with_reducible refine (H2.out _).mono ?_)); rintro e w' ⟨rfl, rfl⟩)
    go_ret2
    exact ⟨rfl, Below.refl _ _⟩
set_option maxHeartbeats 800000 in
theorem complete_walk (s : ByteArray) (a : Nat) (o : Int) (w : World) (V : Int) (R : ByteArray) (E : Int) (ha : a ≤ s.size) (ho : 0 ≤ o) (ho' : o ≤ s.size) (hs : s.size ≤ 281474976710656) (hE : E = 0 ∨ (E = 10 ∧ R = ⟨#[]⟩)) (hV : 0 ≤ V ∧ V ≤ 65535)
    (A1 : ∀ W, Calls Try.prog 59 #[.int .i64 a, .int .i64 s.size] W fun e w' => e = .returned (.bool true) ∧ W = w')
    (A2 : ∀ W, Calls Try.prog 59 #[.int .i64 o, .int .i64 s.size] W fun e w' => e = .returned (.bool true) ∧ W = w')
    (A3 : ∀ W, Calls Try.prog 60 #[.string (s.extract a s.size)] W fun e w' => e = .returned (.int .u16 V) ∧ Below W.heap.size W w')
    (A4 : ∀ W, Calls Try.prog 33 #[.string s, .int .i64 (a + o), .int .u64 V, .int .i64 2, .bool true] W fun e w' => e = .returned (.tuple #[.string R, .int .i64 E]) ∧ Below W.heap.size W w') :
    Calls Try.prog 26 #[.string s, .int .i64 a, .int .i64 o] w fun e w' => e = .returned (if E = 0 then .tuple #[.string R, .int .i64 0] else .tuple #[.string ⟨#[]⟩, .int .i64 1]) ∧ Below w.heap.size w w' := by
  have H1 := Lib.hid A1
  have H2 := Lib.hid A2
  have H3 := Lib.hid A3
  have H4 := Lib.hid A4
  clear A1 A2 A3 A4
  have i0 : (a : Int) ≤ s.size := by omega
  rcases hE with rfl | ⟨rfl, rfl⟩
  · go_enter Try.func26, Try.ntmps26
    go_wp2_with (go_at_call 59; (first | (with_reducible refine (H1.out _).mono ?_) | (with_reducible refine (H2.out _).mono ?_)); rintro e w' ⟨rfl, rfl⟩)
    refine (H3.out _).mono ?_
    rintro e w1 ⟨rfl, hq1⟩
    go_wp2_with fail
    refine (H4.out _).mono ?_
    rintro e w2 ⟨rfl, hq2⟩
    go_wp2_with fail
    go_ret2
    exact ⟨rfl, hq1.trans (hq2.mono hq1.size)⟩
  · go_enter Try.func26, Try.ntmps26
    go_wp2_with (go_at_call 59; (first | (with_reducible refine (H1.out _).mono ?_) | (with_reducible refine (H2.out _).mono ?_)); rintro e w' ⟨rfl, rfl⟩)
    refine (H3.out _).mono ?_
    rintro e w1 ⟨rfl, hq1⟩
    go_wp2_with fail
    refine (H4.out _).mono ?_
    rintro e w2 ⟨rfl, hq2⟩
    go_wp2_with fail
    go_ret2
    exact ⟨rfl, hq1.trans (hq2.mono hq1.size)⟩
theorem comB2_iff {s : ByteArray} {a o : Int} : comB2 s a o = true ↔ 0 ≤ a ∧ a ≤ s.size ∧ 0 ≤ o ∧ o ≤ s.size ∧ a + o + 2 ≤ s.size := by
  simp only [comB2, Bool.and_eq_true, inB, decide_eq_true_eq, and_assoc]
theorem complete_any (s : ByteArray) (a o : Int) (w : World) (hs : s.size ≤ 281474976710656) :
    Calls Try.prog 26 #[.string s, .int .i64 a, .int .i64 o] w fun e w' => e = .returned (.tuple #[.string (comS s a o), .int .i64 (comE s a o)]) ∧ Below w.heap.size w w' := by
  by_cases h : (inB a s.size && inB o s.size) = true
  · have g : (0 ≤ a ∧ a ≤ s.size) ∧ 0 ≤ o ∧ o ≤ s.size := by simpa [inB] using h
    obtain ⟨⟨g1, g2⟩, g3, g4⟩ := g
    obtain ⟨k, rfl⟩ := Int.eq_ofNat_of_zero_le g1
    have A1 : ∀ W, Calls Try.prog 59 #[.int .i64 k, .int .i64 s.size] W fun e w' => e = .returned (.bool true) ∧ W = w' := by
      have e : inB (k : Int) s.size = true := by simp [inB]; omega
      intro W; have := in58 (k : Int) s.size W; rw [e] at this; exact this
    have A2 : ∀ W, Calls Try.prog 59 #[.int .i64 o, .int .i64 s.size] W fun e w' => e = .returned (.bool true) ∧ W = w' := by
      have e : inB o s.size = true := by simp [inB]; omega
      intro W; have := in58 o s.size W; rw [e] at this; exact this
    have A3 := fun W => sumOf_any (s.extract k s.size) W (by rw [ByteArray.size_extract]; omega)
    have hV := segSum_range (s.extract k s.size)
    have hp : putE (segSum (s.extract k s.size)) 2 = 0 := by
      rw [putE, if_pos ⟨by omega, by omega, by show segSum (s.extract k s.size) < 65536; omega⟩]
    by_cases h2 : (k : Int) + o + 2 ≤ s.size
    · have e : comB2 s k o = true := comB2_iff.2 ⟨g1, g2, g3, g4, h2⟩
      obtain ⟨j, rfl⟩ := Int.eq_ofNat_of_zero_le g3
      have A4 : ∀ W, Calls Try.prog 33 #[.string s, .int .i64 ((k : Int) + (j : Nat)), .int .u64 (segSum (s.extract k s.size)), .int .i64 2, .bool true] W fun e w' => e = .returned (.tuple #[.string (withS s (k + j) (segSum (s.extract k s.size))), .int .i64 0]) ∧ Below W.heap.size W w' := by
        intro W
        have := setS2 s (k + j) (segSum (s.extract k s.size)) W hs (by omega) hV.1 hV.2
        rw [show ((k + j : Nat) : Int) = (k : Int) + (j : Nat) by omega] at this
        exact this
      have W := complete_walk s k j w _ _ 0 (by omega) (by omega) (by omega) hs (.inl rfl) hV A1 A2 A3 A4
      rw [if_pos rfl] at W
      rw [comS, comE, e, if_pos rfl, if_pos rfl, show ((k : Int) + (j : Nat)).toNat = k + j by omega, Int.toNat_natCast]
      exact W
    · have e : comB2 s k o = false := by
        cases hb : comB2 s k o
        · rfl
        · exact absurd (comB2_iff.1 hb).2.2.2.2 h2
      have A4 := fun W => set_at s (k + o) (segSum (s.extract k s.size)) 2 true W hs hV.1 (by omega) (by omega) hp (.inr (by omega))
      have W := complete_walk s k o w _ _ 10 (by omega) (by omega) (by omega) hs (.inr ⟨rfl, rfl⟩) hV A1 A2 A3 A4
      rw [if_neg (by decide)] at W
      rw [comS, comE, e, if_neg (by decide), if_neg (by decide)]
      exact W
  · have h' : (inB a s.size && inB o s.size) = false := by simpa using h
    have e : comB2 s a o = false := by unfold comB2; rw [h']; rfl
    rw [comS, comE, e, if_neg (by decide), if_neg (by decide)]
    exact complete_out s a o w h'
/-- What Finish answers. -/
def finE (h : Hd) (s : ByteArray) : Int := if h.gso = 0 then (if h.flags % 2 = 0 then 0 else if comB2 s h.start h.off = true then 0 else 102) else 101
def finS (h : Hd) (s : ByteArray) : ByteArray := if h.gso = 0 then (if h.flags % 2 = 0 then s else comS s h.start h.off) else ⟨#[]⟩
theorem fin_gso (flags gso len siz start off count : Int) (s : ByteArray) (w : World) (h : (gso != 0) = true) :
    Calls Try.prog 15 #[.agg #[.int .i64 flags, .int .i64 gso, .int .i64 len, .int .i64 siz, .int .i64 start, .int .i64 off, .int .i64 count], .string s] w fun e w' => e = .returned (.tuple #[.string ⟨#[]⟩, .int .i64 101]) ∧ Below w.heap.size w w' := by
  go_enter Try.func15, Try.ntmps15
  go_wp2_with fail
  go_ret2
  exact ⟨rfl, (Below.refl _ _).alloc (Nat.le_refl _) _⟩
theorem fin_not (flags len siz start off count : Int) (s : ByteArray) (w : World) (h : bits .and .i64 flags 1 = 0) :
    Calls Try.prog 15 #[.agg #[.int .i64 flags, .int .i64 0, .int .i64 len, .int .i64 siz, .int .i64 start, .int .i64 off, .int .i64 count], .string s] w fun e w' => e = .returned (.tuple #[.string s, .int .i64 0]) ∧ Below w.heap.size w w' := by
  go_enter Try.func15, Try.ntmps15
  go_wp2_with fail
  go_ret2
  exact ⟨rfl, (Below.refl _ _).alloc (Nat.le_refl _) _⟩
theorem fin_yes (flags len siz start off count : Int) (s R : ByteArray) (E : Int) (w : World) (h : bits .and .i64 flags 1 = 1) (hE : E = 0 ∨ E = 1) (A : ∀ W, Calls Try.prog 26 #[.string s, .int .i64 start, .int .i64 off] W fun e w' => e = .returned (.tuple #[.string R, .int .i64 E]) ∧ Below W.heap.size W w') :
    Calls Try.prog 15 #[.agg #[.int .i64 flags, .int .i64 0, .int .i64 len, .int .i64 siz, .int .i64 start, .int .i64 off, .int .i64 count], .string s] w fun e w' => e = .returned (if E = 0 then .tuple #[.string R, .int .i64 0] else .tuple #[.string ⟨#[]⟩, .int .i64 102]) ∧ Below w.heap.size w w' := by
  have HA := Lib.hid A
  clear A
  rcases hE with rfl | rfl
  · go_enter Try.func15, Try.ntmps15
    go_wp2_with fail
    refine (HA.out _).mono ?_
    rintro e w1 ⟨rfl, hq⟩
    go_wp2_with fail
    go_ret2
    exact ⟨rfl, ((Below.refl _ _).alloc (Nat.le_refl _) _).trans (hq.mono (by simp))⟩
  · go_enter Try.func15, Try.ntmps15
    go_wp2_with fail
    refine (HA.out _).mono ?_
    rintro e w1 ⟨rfl, hq⟩
    go_wp2_with fail
    go_ret2
    exact ⟨rfl, ((Below.refl _ _).alloc (Nat.le_refl _) _).trans (hq.mono (by simp))⟩
theorem fin_any (h : Hd) (s : ByteArray) (w : World) (hs : s.size ≤ 281474976710656) :
    Calls Try.prog 15 #[.agg (hdL h), .string s] w fun e w' => e = .returned (.tuple #[.string (finS h s), .int .i64 (finE h s)]) ∧ Below w.heap.size w w' := by
  obtain ⟨flags, gso, len, siz, start, off, count⟩ := h
  by_cases hg : gso = 0
  · subst hg
    by_cases hf : flags % 2 = 0
    · rw [finS, finE, if_pos rfl, if_pos rfl, if_pos hf, if_pos hf]
      exact fin_not _ _ _ _ _ _ s w (by rw [low1]; exact hf)
    · rw [finS, finE, if_pos rfl, if_pos rfl, if_neg hf, if_neg hf]
      have A := fun W => complete_any s start off W hs
      have k := fin_yes flags len siz start off count s _ _ w (by rw [low1]; omega) (by unfold comE; split <;> simp) A
      by_cases hc : comB2 s start off = true
      · have e : comE s start off = 0 := by rw [comE, if_pos hc]
        rw [e, if_pos rfl] at k
        rw [if_pos hc]
        exact k
      · have e : comE s start off = 1 := by rw [comE, if_neg hc]
        rw [e, if_neg (by decide)] at k
        rw [if_neg hc, show comS s start off = ⟨#[]⟩ from if_neg hc]
        exact k
  · rw [finS, finE, if_neg hg, if_neg hg]
    exact fin_gso _ _ _ _ _ _ _ s w (by simpa using hg)
end Go.Proofs.Ytalkpllmcigjnaa
