/-
  The reader's rules; no condition.
-/
import Derived.Test.YtongkfimgohhbaaCh
namespace Go.Proofs.Ytongkfimgohhbaa
open Go.RowKit

def quL (s : ByteArray) (n : Nat) : List Int := if 128 < n then [] else stN s 2 n
def quS (s : ByteArray) (n : Nat) : ByteArray := if 128 < n then s else stS s 2 n
def quB (s : ByteArray) (b : Bool) (n : Nat) : Bool := if 128 < n then true else stB s b 2 n
theorem quL_length (s : ByteArray) (n : Nat) : (quL s n).length ≤ 128 := by
  unfold quL
  split
  · simp
  · rw [stN_length]; omega
theorem quS_size (s : ByteArray) (n : Nat) : (quS s n).size ≤ s.size := by
  unfold quS
  split
  · exact Nat.le_refl _
  · exact stS_size _ _ _
theorem que_any (h : Nat) (s : ByteArray) (b : Bool) (n : Nat) (w : World) (hs : s.size ≤ maxLen) (hn : n ≤ 65536) (hb : Blk w h 64 (rdC s b)) :
    Calls Try.prog 80 #[.pointer (some ⟨h, 0, none⟩), .int .i64 n] w fun e w' =>
      ∃ A c, e = .returned (.slice A (quL s n).length c) ∧ OwnI w.heap.size A c (quL s n) w' ∧ Blk w' h 64 (rdC (quS s n) (quB s b n)) ∧ Tch [h] w w' := by
  unfold quL quS quB
  by_cases hg : 128 < n
  · rw [if_pos hg, if_pos hg, if_pos hg]
    exact (que_bad h s b n w hg hn hb).mono fun e w' ⟨he, hk, ht⟩ => ⟨none, 0, he, own_nil _ _ _, hk, ht⟩
  · rw [if_neg hg, if_neg hg, if_neg hg]
    refine (que_good h s b n w hs (by omega) hb).mono ?_
    rintro e w' ⟨A, c, he, ho, hk, ht⟩
    exact ⟨A, c, by rw [he, stN_length], ho, hk, ht⟩
def rlK (s : ByteArray) : Nat := nm s 4
def rl1 (s : ByteArray) : ByteArray := tkR s 4
def rlN (s : ByteArray) : Nat := nm (rl1 s) 2 + 1
def rl2 (s : ByteArray) : ByteArray := tkR (rl1 s) 2
def rlD (s : ByteArray) : Nat := nm (rl2 s) 2
def rl3 (s : ByteArray) : ByteArray := tkR (rl2 s) 2
def rlT (s : ByteArray) : List Int := quL (rl3 s) (rlN s)
def rl4 (s : ByteArray) : ByteArray := quS (rl3 s) (rlN s)
def rlP (s : ByteArray) : Nat := nm (rl4 s) 2
def rl5 (s : ByteArray) : ByteArray := tkR (rl4 s) 2
def rlM (s : ByteArray) : Nat := nm (rl5 s) 1
def rl6 (s : ByteArray) : ByteArray := tkR (rl5 s) 1
def rlX (s : ByteArray) : ByteArray := tkS (rl6 s) (rlM s)
def rl7 (s : ByteArray) : ByteArray := tkR (rl6 s) (rlM s)
def rlB (s : ByteArray) (b : Bool) : Bool := tkB (rl6 s) (rlM s) (tkB (rl5 s) 1 (tkB (rl4 s) 2 (quB (rl3 s) (tkB (rl2 s) 2 (tkB (rl1 s) 2 (tkB s 4 b))) (rlN s))))
def RulesP (h : Nat) (s : ByteArray) (b : Bool) (w : World) (e : Ending) (w' : World) : Prop :=
  ∃ A c, e = .returned (.tuple #[.agg #[.int .i64 (rlK s : Nat), .slice A (rlT s).length c, .string (rlX s), .int .i64 (rlD s : Nat)], .int .i64 (rlP s : Nat)]) ∧ OwnI w.heap.size A c (rlT s) w' ∧ Blk w' h 64 (rdC (rl7 s) (rlB s b)) ∧ Tch [h] w w'
theorem rules_results (w : World) (tmps : Array Value) (g : Nat) (n : Int) (h2 : tmps[2]?.getD undef = .pointer (some ⟨g, 0, none⟩)) (h3 : tmps[3]?.getD undef = .int .i64 n) {a0 a1 a2 a3 : Value} (h : Blk w g 27 #[a0, a1, a2, a3]) :
    (results Try.f68 tmps).run Try.prog w = .ok (.tuple #[.agg #[a0, a1, a2, a3], .int .i64 n]) w := by
  have c0 := h.cell 0
  have c1 := h.cell 1
  have c2 := h.cell 2
  have c3 := h.cell 3
  simp only [List.getElem?_toArray, List.getElem?_cons_zero, List.getElem?_cons_succ] at c0 c1 c2 c3
  simp [results, Try.results68, go_sem, h2, h3, c0, c1, c2, c3]
set_option maxHeartbeats 2000000 in
theorem rules_walk (h : Nat) (s s1 s2 s3 s4 s5 s6 s7 : ByteArray) (b b1 b2 b3 b4 b5 b6 b7 : Bool) (K N D P M : Nat) (L : List Int) (X : ByteArray) (w : World) (hh : Blk w h 64 (rdC s b)) (hN : N ≤ 65535)
    (A1 : ∀ W, Blk W h 64 (rdC s b) → Calls Try.prog 51 #[.pointer (some ⟨h, 0, none⟩), .int .i64 4] W fun e w' => e = .returned (.int .i64 (K : Nat)) ∧ Blk w' h 64 (rdC s1 b1) ∧ Tch [h] W w')
    (A2 : ∀ W, Blk W h 64 (rdC s1 b1) → Calls Try.prog 51 #[.pointer (some ⟨h, 0, none⟩), .int .i64 2] W fun e w' => e = .returned (.int .i64 (N : Nat)) ∧ Blk w' h 64 (rdC s2 b2) ∧ Tch [h] W w')
    (A3 : ∀ W, Blk W h 64 (rdC s2 b2) → Calls Try.prog 51 #[.pointer (some ⟨h, 0, none⟩), .int .i64 2] W fun e w' => e = .returned (.int .i64 (D : Nat)) ∧ Blk w' h 64 (rdC s3 b3) ∧ Tch [h] W w')
    (A4 : ∀ W, Blk W h 64 (rdC s3 b3) → Calls Try.prog 80 #[.pointer (some ⟨h, 0, none⟩), .int .i64 ((N : Int) + 1)] W fun e w' => ∃ A c, e = .returned (.slice A L.length c) ∧ OwnI W.heap.size A c L w' ∧ Blk w' h 64 (rdC s4 b4) ∧ Tch [h] W w')
    (A5 : ∀ W, Blk W h 64 (rdC s4 b4) → Calls Try.prog 51 #[.pointer (some ⟨h, 0, none⟩), .int .i64 2] W fun e w' => e = .returned (.int .i64 (P : Nat)) ∧ Blk w' h 64 (rdC s5 b5) ∧ Tch [h] W w')
    (A6 : ∀ W, Blk W h 64 (rdC s5 b5) → Calls Try.prog 51 #[.pointer (some ⟨h, 0, none⟩), .int .i64 1] W fun e w' => e = .returned (.int .i64 (M : Nat)) ∧ Blk w' h 64 (rdC s6 b6) ∧ Tch [h] W w')
    (A7 : ∀ W, Blk W h 64 (rdC s6 b6) → Calls Try.prog 64 #[.pointer (some ⟨h, 0, none⟩), .int .i64 (M : Nat)] W fun e w' => e = .returned (.string X) ∧ Blk w' h 64 (rdC s7 b7) ∧ Tch [h] W w') :
    Calls Try.prog 68 #[.pointer (some ⟨h, 0, none⟩)] w fun e w' => ∃ A c, e = .returned (.tuple #[.agg #[.int .i64 (K : Nat), .slice A L.length c, .string X, .int .i64 (D : Nat)], .int .i64 (P : Nat)]) ∧ OwnI w.heap.size A c L w' ∧ Blk w' h 64 (rdC s7 b7) ∧ Tch [h] w w' := by
  have H1 := Lib.hid A1
  have H2 := Lib.hid A2
  have H3 := Lib.hid A3
  have H4 := Lib.hid A4
  have H5 := Lib.hid A5
  have H6 := Lib.hid A6
  have H7 := Lib.hid A7
  clear A1 A2 A3 A4 A5 A6 A7
  have hlt := hh.lt
  have kh : Blk ((w.alloc (.cells #[.int .i64 0, .slice none 0 0, .string ⟨#[]⟩, .int .i64 0] 27)).alloc (.cells #[.int .i64 0, .slice none 0 0, .string ⟨#[]⟩, .int .i64 0] 27)) h 64 (rdC s b) := (hh.alloc _).alloc _
  have kz : Blk ((w.alloc (.cells #[.int .i64 0, .slice none 0 0, .string ⟨#[]⟩, .int .i64 0] 27)).alloc (.cells #[.int .i64 0, .slice none 0 0, .string ⟨#[]⟩, .int .i64 0] 27)) w.heap.size 27 #[.int .i64 0, .slice none 0 0, .string ⟨#[]⟩, .int .i64 0] := (Blk.new w 27 _).alloc _
  have kr : Blk ((w.alloc (.cells #[.int .i64 0, .slice none 0 0, .string ⟨#[]⟩, .int .i64 0] 27)).alloc (.cells #[.int .i64 0, .slice none 0 0, .string ⟨#[]⟩, .int .i64 0] 27)) (w.heap.size + 1) 27 #[.int .i64 0, .slice none 0 0, .string ⟨#[]⟩, .int .i64 0] := by
    have := Blk.new (w.alloc (.cells #[.int .i64 0, .slice none 0 0, .string ⟨#[]⟩, .int .i64 0] 27)) 27 #[.int .i64 0, .slice none 0 0, .string ⟨#[]⟩, .int .i64 0]
    simpa using this
  have kt : Tch [h] w ((w.alloc (.cells #[.int .i64 0, .slice none 0 0, .string ⟨#[]⟩, .int .i64 0] 27)).alloc (.cells #[.int .i64 0, .slice none 0 0, .string ⟨#[]⟩, .int .i64 0] 27)) := ((Tch.refl [h] w).alloc _).alloc _
  have KH := Lib.hid kh
  have KZ := Lib.hid kz
  have KR := Lib.hid kr
  have KT := Lib.hid kt
  clear kh kz kr kt hh
  have nz : w.heap.size ≠ h := by omega
  have nr : w.heap.size + 1 ≠ h := by omega
  have hlt1 : h < w.heap.size + 1 := by omega
  have NZ := Lib.hid nz
  have NR := Lib.hid nr
  have HL := Lib.hid hlt
  clear nz nr hlt hlt1
  go_enter Try.func68, Try.ntmps68
  go_wp2_with fail
  refine (H1.out _ KH.out).mono ?_
  rintro e w1 ⟨rfl, hk, ht⟩
  have hr := ht.blk KR.out (by have := NR.out; simpa using this)
  have hz := ht.blk KZ.out (by have := NZ.out; simpa using this)
  have c0 := hr.cell 0
  simp only [List.getElem?_toArray, List.getElem?_cons_zero] at c0
  have f0 := hr.frozen 0
  have hr2 : Blk (w1.setCell ⟨w.heap.size + 1, 0, none⟩ (.int .i64 (K : Nat))) (w.heap.size + 1) 27 #[.int .i64 (K : Nat), .slice none 0 0, .string ⟨#[]⟩, .int .i64 0] := hr.put 0 (.int .i64 (K : Nat))
  have hz2 := hz.other (k := w.heap.size + 1) (by omega) 0 (.int .i64 (K : Nat))
  have hk2 := hk.other (k := w.heap.size + 1) (by have := NR.out; omega) 0 (.int .i64 (K : Nat))
  have ht2 : Tch [h] w (w1.setCell ⟨w.heap.size + 1, 0, none⟩ (.int .i64 (K : Nat))) := (KT.out.trans ht).setCell (.inr (by omega)) 0 (.int .i64 (K : Nat))
  replace KR := Lib.hid hr2
  replace KZ := Lib.hid hz2
  replace KH := Lib.hid hk2
  replace KT := Lib.hid ht2
  clear hr hz hk ht hr2 hz2 hk2 ht2 H1
  go_wp2_with fail
  refine (H2.out _ KH.out).mono ?_
  rintro e w2 ⟨rfl, hk, ht⟩
  have hr := ht.blk KR.out (by have := NR.out; simpa using this)
  have hz := ht.blk KZ.out (by have := NZ.out; simpa using this)
  replace KR := Lib.hid hr
  replace KZ := Lib.hid hz
  replace KH := Lib.hid hk
  replace KT := Lib.hid (KT.out.trans ht)
  clear hr hz hk ht H2
  clear c0 f0
  go_wp2_with fail
  refine (H3.out _ KH.out).mono ?_
  rintro e w3 ⟨rfl, hk, ht⟩
  have hr := ht.blk KR.out (by have := NR.out; simpa using this)
  have hz := ht.blk KZ.out (by have := NZ.out; simpa using this)
  have c3 := hr.cell 3
  simp only [List.getElem?_toArray, List.getElem?_cons_zero, List.getElem?_cons_succ] at c3
  have f3 := hr.frozen 3
  have hr2 : Blk (w3.setCell ⟨w.heap.size + 1, 3, none⟩ (.int .i64 (D : Nat))) (w.heap.size + 1) 27 #[.int .i64 (K : Nat), .slice none 0 0, .string ⟨#[]⟩, .int .i64 (D : Nat)] := hr.put 3 (.int .i64 (D : Nat))
  have hz2 := hz.other (k := w.heap.size + 1) (by omega) 3 (.int .i64 (D : Nat))
  have hk2 := hk.other (k := w.heap.size + 1) (by have := NR.out; omega) 3 (.int .i64 (D : Nat))
  have ht2 : Tch [h] w (w3.setCell ⟨w.heap.size + 1, 3, none⟩ (.int .i64 (D : Nat))) := (KT.out.trans ht).setCell (.inr (by omega)) 3 (.int .i64 (D : Nat))
  replace KR := Lib.hid hr2
  replace KZ := Lib.hid hz2
  replace KH := Lib.hid hk2
  replace KT := Lib.hid ht2
  clear hr hz hk ht hr2 hz2 hk2 ht2 H3
  go_wp2_with fail
  refine (H4.out _ KH.out).mono ?_
  rintro e w4 ⟨A, c, rfl, hO, hk, ht⟩
  have hr := ht.blk KR.out (by have := NR.out; simpa using this)
  have hz := ht.blk KZ.out (by have := NZ.out; simpa using this)
  obtain ⟨B, hB⟩ : ∃ B, (w3.setCell ⟨w.heap.size + 1, 3, none⟩ (.int .i64 (D : Nat))).heap.size = B := ⟨_, rfl⟩
  have hG : w.heap.size + 1 < B := by rw [← hB]; exact KR.out.lt
  have hB2 : h < B := by have := HL.out; omega
  rw [hB] at hO
  have HG := Lib.hid hG
  have HB := Lib.hid hB2
  clear hG hB hB2
  have c1 := hr.cell 1
  simp only [List.getElem?_toArray, List.getElem?_cons_zero, List.getElem?_cons_succ] at c1
  have f1 := hr.frozen 1
  have hr2 : Blk (w4.setCell ⟨w.heap.size + 1, 1, none⟩ (.slice A L.length c)) (w.heap.size + 1) 27 #[.int .i64 (K : Nat), .slice A L.length c, .string ⟨#[]⟩, .int .i64 (D : Nat)] := hr.put 1 (.slice A L.length c)
  have hz2 := hz.other (k := w.heap.size + 1) (by omega) 1 (.slice A L.length c)
  have hk2 := hk.other (k := w.heap.size + 1) (by have := NR.out; omega) 1 (.slice A L.length c)
  have ht2 : Tch [h] w (w4.setCell ⟨w.heap.size + 1, 1, none⟩ (.slice A L.length c)) := (KT.out.trans ht).setCell (.inr (by omega)) 1 (.slice A L.length c)
  have hO2 := own_set hO (g := w.heap.size + 1) HG.out 1 (.slice A L.length c)
  replace KR := Lib.hid hr2
  replace KZ := Lib.hid hz2
  replace KH := Lib.hid hk2
  replace KT := Lib.hid ht2
  have HO := Lib.hid hO2
  clear hO hO2
  clear hr hz hk ht hr2 hz2 hk2 ht2 H4
  clear c3 f3
  go_wp2_with fail
  refine (H5.out _ KH.out).mono ?_
  rintro e w5 ⟨rfl, hk, ht⟩
  have hr := ht.blk KR.out (by have := NR.out; simpa using this)
  have hz := ht.blk KZ.out (by have := NZ.out; simpa using this)
  have hO := own_same HO.out (fun k hk => ht.block k (HO.out.lt k hk).2 (by have := (HO.out.lt k hk).1; have := HB.out; simp; omega))
  replace KR := Lib.hid hr
  replace KZ := Lib.hid hz
  replace KH := Lib.hid hk
  replace KT := Lib.hid (KT.out.trans ht)
  clear hr hz hk ht H5
  replace HO := Lib.hid hO
  clear hO
  clear c1 f1
  go_wp2_with fail
  refine (H6.out _ KH.out).mono ?_
  rintro e w6 ⟨rfl, hk, ht⟩
  have hr := ht.blk KR.out (by have := NR.out; simpa using this)
  have hz := ht.blk KZ.out (by have := NZ.out; simpa using this)
  have hO := own_same HO.out (fun k hk => ht.block k (HO.out.lt k hk).2 (by have := (HO.out.lt k hk).1; have := HB.out; simp; omega))
  replace KR := Lib.hid hr
  replace KZ := Lib.hid hz
  replace KH := Lib.hid hk
  replace KT := Lib.hid (KT.out.trans ht)
  clear hr hz hk ht H6
  replace HO := Lib.hid hO
  clear hO
  go_wp2_with fail
  refine (H7.out _ KH.out).mono ?_
  rintro e w7 ⟨rfl, hk, ht⟩
  have hr := ht.blk KR.out (by have := NR.out; simpa using this)
  have hz := ht.blk KZ.out (by have := NZ.out; simpa using this)
  have hO := own_same HO.out (fun k hk => ht.block k (HO.out.lt k hk).2 (by have := (HO.out.lt k hk).1; have := HB.out; simp; omega))
  have c2 := hr.cell 2
  simp only [List.getElem?_toArray, List.getElem?_cons_zero, List.getElem?_cons_succ] at c2
  have f2 := hr.frozen 2
  have hr2 : Blk (w7.setCell ⟨w.heap.size + 1, 2, none⟩ (.string X)) (w.heap.size + 1) 27 #[.int .i64 (K : Nat), .slice A L.length c, .string X, .int .i64 (D : Nat)] := hr.put 2 (.string X)
  have hz2 := hz.other (k := w.heap.size + 1) (by omega) 2 (.string X)
  have hk2 := hk.other (k := w.heap.size + 1) (by have := NR.out; omega) 2 (.string X)
  have ht2 : Tch [h] w (w7.setCell ⟨w.heap.size + 1, 2, none⟩ (.string X)) := (KT.out.trans ht).setCell (.inr (by omega)) 2 (.string X)
  have hO2 := own_set hO (g := w.heap.size + 1) HG.out 2 (.string X)
  replace KR := Lib.hid hr2
  replace KZ := Lib.hid hz2
  replace KH := Lib.hid hk2
  replace KT := Lib.hid ht2
  replace HO := Lib.hid hO2
  clear hO hO2
  have c0 := hr.cell 0
  have c1 := hr.cell 1
  have c3 := hr.cell 3
  simp only [List.getElem?_toArray, List.getElem?_cons_zero, List.getElem?_cons_succ] at c0 c1 c3
  have d0 := hz.cell 0
  have d1 := hz.cell 1
  have d2 := hz.cell 2
  have d3 := hz.cell 3
  simp only [List.getElem?_toArray, List.getElem?_cons_zero, List.getElem?_cons_succ] at d0 d1 d2 d3
  have g0 := hz.frozen 0
  have g1 := hz.frozen 1
  have g2 := hz.frozen 2
  have g3 := hz.frozen 3
  clear hr hz hk ht hr2 hz2 hk2 ht2 H7
  have hz : Blk ((w7.setCell ⟨w.heap.size + 1, 2, none⟩ (.string X)).setCells w.heap.size 0 [.int .i64 (K : Nat), .slice A L.length c, .string X, .int .i64 (D : Nat)]) w.heap.size 27 #[.int .i64 (K : Nat), .slice A L.length c, .string X, .int .i64 (D : Nat)] := KZ.out.store 0 [.int .i64 (K : Nat), .slice A L.length c, .string X, .int .i64 (D : Nat)] (by simp)
  have hk : Blk ((w7.setCell ⟨w.heap.size + 1, 2, none⟩ (.string X)).setCells w.heap.size 0 [.int .i64 (K : Nat), .slice A L.length c, .string X, .int .i64 (D : Nat)]) h 64 (rdC s7 b7) := KH.out.same (heap_puts _ _ _ _ (by have := HL.out; omega))
  have hO : OwnI w.heap.size A c L ((w7.setCell ⟨w.heap.size + 1, 2, none⟩ (.string X)).setCells w.heap.size 0 [.int .i64 (K : Nat), .slice A L.length c, .string X, .int .i64 (D : Nat)]) := own_less (own_same HO.out (fun k hk => heap_puts _ _ _ _ (by have := (HO.out.lt k hk).1; have := HG.out; omega))) (by have := HG.out; omega)
  have ht : Tch [h] w ((w7.setCell ⟨w.heap.size + 1, 2, none⟩ (.string X)).setCells w.heap.size 0 [.int .i64 (K : Nat), .slice A L.length c, .string X, .int .i64 (D : Nat)]) := Tch.store _ _ _ KT.out (.inr (Nat.le_refl _))
  simp only [World.setCells, Nat.reduceAdd] at hz hk hO ht
  have HZ := Lib.hid hz
  have HK := Lib.hid hk
  have HO2 := Lib.hid hO
  have HT := Lib.hid ht
  clear hz hk hO ht
  go_wp2_with fail
  refine bodyPost_ret (v := .tuple #[.agg #[.int .i64 (K : Nat), .slice A L.length c, .string X, .int .i64 (D : Nat)], .int .i64 (P : Nat)]) ?_ rfl ?_
  · exact rules_results _ _ w.heap.size _ rfl rfl HZ.out
  · exact ⟨A, c, rfl, HO2.out, HK.out, HT.out⟩
theorem crules_any (h : Nat) (s : ByteArray) (b : Bool) (w : World) (hs : s.size ≤ maxLen) (hb : Blk w h 64 (rdC s b)) :
    Calls Try.prog 68 #[.pointer (some ⟨h, 0, none⟩)] w (RulesP h s b w) := by
  have z1 : (rl1 s).size ≤ maxLen := Nat.le_trans (tkR_size _ _) hs
  have z2 : (rl2 s).size ≤ maxLen := Nat.le_trans (tkR_size _ _) z1
  have z3 : (rl3 s).size ≤ maxLen := Nat.le_trans (tkR_size _ _) z2
  have z4 : (rl4 s).size ≤ maxLen := Nat.le_trans (quS_size _ _) z3
  have z5 : (rl5 s).size ≤ maxLen := Nat.le_trans (tkR_size _ _) z4
  have z6 : (rl6 s).size ≤ maxLen := Nat.le_trans (tkR_size _ _) z5
  have hn : nm (rl1 s) 2 < 65536 := nm_lt _ 2
  have hm : nm (rl5 s) 1 < 256 := nm_lt _ 1
  refine rules_walk h s (rl1 s) (rl2 s) (rl3 s) (rl4 s) (rl5 s) (rl6 s) (rl7 s) b _ _ _ _ _ _ (rlB s b) (rlK s) (nm (rl1 s) 2) (rlD s) (rlP s) (rlM s) (rlT s) (rlX s) w hb (by omega)
    (fun W hk => number_any h s b 4 W hs (by omega) (by omega) hk) (fun W hk => number_any h (rl1 s) _ 2 W z1 (by omega) (by omega) hk)
    (fun W hk => number_any h (rl2 s) _ 2 W z2 (by omega) (by omega) hk) (fun W hk => ?_) (fun W hk => number_any h (rl4 s) _ 2 W z4 (by omega) (by omega) hk)
    (fun W hk => number_any h (rl5 s) _ 1 W z5 (by omega) (by omega) hk) (fun W hk => take_any h (rl6 s) _ (rlM s) W z6 (by unfold rlM; omega) hk)
  have := que_any h (rl3 s) (tkB (rl2 s) 2 (tkB (rl1 s) 2 (tkB s 4 b))) (rlN s) W z3 (by unfold rlN; omega) hk
  rw [show ((rlN s : Nat) : Int) = (nm (rl1 s) 2 : Int) + 1 by unfold rlN; omega] at this
  exact this
end Go.Proofs.Ytongkfimgohhbaa
