/-
  What the laws' laid makes: two memories, a queue over each; no condition.
-/
import Derived.Test.YtbpgblmhacpjlaaRn
import Derived.Test.YtbpgblmhacpjlaaSep3
import Derived.Test.YtbpgblmhacpjlaaVj
namespace Go.Proofs.Ytbpgblmhacpjlaa
open Go.RowKit

def bytesN (b : Int) : Nat := (max 64 (min b 2048)).toNat
theorem bytesN_le (b : Int) : 64 ≤ bytesN b ∧ bytesN b ≤ 2048 := by unfold bytesN; omega
/-- what stood there -/
def stood : ByteArray := noughts 30 ++ ⟨#[119, 104, 97, 116, 32, 115, 116, 111, 111, 100, 32, 116, 104, 101, 114, 101]⟩
theorem stood_size : stood.size = 46 := by unfold stood; rw [ByteArray.size_append, noughts_size]; rfl
def xs0 (n : Nat) : List UInt8 := over (List.replicate n 0) 0 stood
theorem xs0_length {n : Nat} (h : 64 ≤ n) : (xs0 n).length = n := by
  unfold xs0
  rw [over_length _ _ _ (by rw [stood_size, List.length_replicate]; omega), List.length_replicate]
/-- the code's memory and queue; the document's -/
def drvP (g gq : Nat) (xs : List UInt8) (q : Vs) : As := stars [memA g xs, drvA gq g q]
def refP (g gx : Nat) (xs : List UInt8) (n : Nat) (q : Vs) : As := stars [rmemA g xs n, refA gx g q]
/-- the bytes behind New -/
def layX (b r z x y : Int) : List UInt8 := newX (xs0 (bytesN b)) r.toNat z.toNat x.toNat y.toNat
def LaidP (b r z x y : Int) (w : World) (e : Ending) (w' : World) : Prop :=
  if layB (xs0 (bytesN b)) r z x y then ∃ g gq gk gx, e = .returned (.tuple #[.pointer (some ⟨g, 0, none⟩), .pointer (some ⟨gq, 0, none⟩), .pointer (some ⟨gx, 0, none⟩), .bool true]) ∧ St (fun _ => False) w (stars [drvP g gq (layX b r z x y) (newV r z x y), refP gk gx (layX b r z x y) 4 (newV r z x y)]) w'
  else ∃ p, e = .returned (.tuple #[p, .pointer none, .pointer none, .bool true]) ∧ Below w.heap.size w w'
theorem str_self (s : ByteArray) : (s.toList == s.toList) = true := by simp
theorem laid_results (f : Func) (w : World) (tmps : Array Value) (hf : f.results = Try.f22.results) {a b c d : Value} (h2 : tmps[2]?.getD undef = a) (h3 : tmps[3]?.getD undef = b) (h4 : tmps[4]?.getD undef = c) (h5 : tmps[5]?.getD undef = d) :
    (results f tmps).run Try.prog w = .ok (.tuple #[a, b, c, d]) w := by
  simp [results, hf, Try.results22, go_sem, h2, h3, h4, h5]
theorem laid_end {F : Nat → Prop} {w : World} {A B C : As} (h : (stars [A, B, C]).P F w) : ∃ F', (stars [B, A]).P F' w ∧ ∀ k, F' k → F k := by
  obtain ⟨F1, F2, hF, d, a, F3, F4, hF2, d2, b, c⟩ := h
  refine ⟨fun k => F3 k ∨ F1 k, ⟨F3, F1, fun k => Iff.rfl, fun k e e' => d k e' ((hF2 k).2 (.inl e)), b, F1, fun _ => False, fun k => by simp, fun k _ e => e, a, fun _ e => e⟩, fun k hk => ?_⟩
  rcases hk with e | e
  · exact (hF k).2 (.inr ((hF2 k).2 (.inl e)))
  · exact (hF k).2 (.inl e)
theorem St.weak {F0 : Nat → Prop} {w0 w : World} {A B : As} (h : St F0 w0 A w) (hAB : ∀ F, A.P F w → ∃ F', B.P F' w ∧ ∀ k, F' k → F k) : St F0 w0 B w := by
  obtain ⟨F, a, hs, hF⟩ := h
  obtain ⟨F', b, hb⟩ := hAB F a
  exact ⟨F', b, hs, fun k hk => hF k (hb k hk)⟩
set_option maxRecDepth 100000 in
set_option maxHeartbeats 6400000 in
theorem laid_good (b r z x y : Int) (A : Option Addr) (n c : Nat) (k : layB (xs0 (bytesN b)) r z x y = true) (w : World) :
    Calls Try.prog 22 #[.agg #[.int .i64 b, .int .i64 r, .int .i64 z, .int .i64 x, .int .i64 y, .slice A n c]] w (LaidP b r z x y w) := by
  unfold LaidP
  rw [k]
  obtain ⟨B, hB⟩ : ∃ B, bytesN b = B := ⟨_, rfl⟩
  have hBl := bytesN_le b
  rw [hB] at hBl k
  have HN : ∀ V : Int, V = (B : Int) → ∀ W, Calls Try.prog 7 #[.int .i64 V] W (MadeM B W) := by rintro _ rfl W; exact memA_new B W hBl.1 (by omega)
  have HR : ∀ V : Int, V = (B : Int) → ∀ W, Calls Try.prog 47 #[.int .i64 V] W (MadeR B W) := by rintro _ rfl W; exact rmemA_new B W hBl.1 (by omega)
  have hx0 : (List.replicate B (0 : UInt8)).length = B := List.length_replicate
  have HW : ∀ (F : Nat → Prop) g W, (memA g (List.replicate B 0)).P F W → Calls Try.prog 27 #[.pointer (some ⟨g, 0, none⟩), .int .i64 0, .string stood] W fun e w' => e = .returned (.int .i64 0) ∧ St F W (memA g (xs0 B)) w' := fun F g W h => memA_put h 0 stood (by rw [stood_size, hx0]; omega)
  have HV : ∀ (F : Nat → Prop) g W, (rmemA g (List.replicate B 0) 0).P F W → Calls Try.prog 48 #[.pointer (some ⟨g, 0, none⟩), .int .i64 0, .string stood] W fun e w' => e = .returned (.int .i64 0) ∧ St F W (rmemA g (xs0 B) 1) w' := fun F g W h => rmemA_put h (by omega) 0 stood (by rw [stood_size, hx0]; omega)
  have HD : ∀ (F : Nat → Prop) g W, (memA g (xs0 B)).P F W → Calls Try.prog 8 #[.pointer (some ⟨g, 0, none⟩), .agg #[.int .i64 r, .int .i64 z, .int .i64 x, .int .i64 y]] W fun e w' => ∃ gq, e = .returned (.tuple #[.pointer (some ⟨gq, 0, none⟩), .int .i64 0]) ∧ St F W (drvP g gq (layX b r z x y) (newV r z x y)) w' := fun F g W h => by
    have := dnew_v h r z x y
    unfold NewD at this
    rw [k] at this
    refine this.mono fun e w' hh => ?_
    rw [if_pos rfl] at hh
    unfold layX
    rw [hB]; exact hh
  have HX : ∀ (F : Nat → Prop) g W, (rmemA g (xs0 B) 1).P F W → Calls Try.prog 49 #[.pointer (some ⟨g, 0, none⟩), .agg #[.int .i64 r, .int .i64 z, .int .i64 x, .int .i64 y]] W fun e w' => ∃ gx, e = .returned (.tuple #[.pointer (some ⟨gx, 0, none⟩), .int .i64 0]) ∧ St F W (refP g gx (layX b r z x y) 4 (newV r z x y)) w' := fun F g W h => by
    have := rnew_v h (by omega) r z x y
    unfold NewR at this
    rw [k] at this
    refine this.mono fun e w' hh => ?_
    rw [if_pos rfl] at hh
    unfold layX
    rw [hB]; exact hh
  obtain ⟨X, hX⟩ : ∃ X, layX b r z x y = X := ⟨_, rfl⟩
  obtain ⟨q, hq⟩ : ∃ q, newV r z x y = q := ⟨_, rfl⟩
  rw [hX, hq] at HD HX ⊢
  have S0 := (St.begin w).push 59 #[.int .i64 b, .int .i64 r, .int .i64 z, .int .i64 x, .int .i64 y, .slice A n c]
  obtain ⟨Z, hZ, hp, -⟩ := made_noughts 30
  have hZ : ∀ W : World, (Instr.makeSlice 82 (.int .i64 30) (.int .i64 30)).run Try.prog W = .ok (.slice (some ⟨W.heap.size, 0, none⟩) 30 30) (W.alloc (.cells Z 5)) := hZ (by omega)
  obtain ⟨T, hT⟩ : ∃ T, noughts 30 = T := ⟨_, rfl⟩
  have hTs : T.size = 30 := by rw [← hT]; exact noughts_size 30
  have hst : T ++ ⟨#[119, 104, 97, 116, 32, 115, 116, 111, 111, 100, 32, 116, 104, 101, 114, 101]⟩ = stood := by rw [← hT]; rfl
  rw [hT] at hp
  have HN := Lib.hid HN
  have HR := Lib.hid HR
  have HW := Lib.hid HW
  have HV := Lib.hid HV
  have HD := Lib.hid HD
  have HX := Lib.hid HX
  have HZ := Lib.hid hZ
  have HP := Lib.hid hp
  have HB := Lib.hid hB
  have HS := Lib.hid S0
  have HT := Lib.hid hst
  have HTs := Lib.hid hTs
  clear hBl k hx0 hX hq S0 hZ hp hT hTs hst hB
  go_enter Try.func22, Try.ntmps22
  go_wp2_with fail
  refine (HN.out _ (by have := HB.out; unfold bytesN at this; omega) _).mono ?_
  rintro e w1 ⟨g, F1, rfl, hM, hF1, hb1⟩
  have S1 := Lib.hid (HS.out.add hb1 hM hF1)
  clear hM hF1 hb1
  go_wp2_with fail
  refine (HR.out _ (by have := HB.out; unfold bytesN at this; omega) _).mono ?_
  rintro e w2 ⟨gk, F2, rfl, hM, hF2, hb2⟩
  have S2 : St (fun _ => False) w (stars [rmemA gk (List.replicate B 0) 0, memA g (List.replicate B 0), box w.heap.size 59 #[.int .i64 b, .int .i64 r, .int .i64 z, .int .i64 x, .int .i64 y, .slice A n c]]) w2 := S1.out.add hb2 hM hF2
  have S2 := Lib.hid S2
  clear hM hF2 hb2 S1
  have hz := HZ.out
  have hp := HP.out
  have hTs := HTs.out
  go_wp2_with fail
  rw [HT.out]
  obtain ⟨F3, hA, hback⟩ := (S2.out.alloc (.cells Z 5)).at 1 (by simp)
  refine (HW.out _ _ _ hA).mono ?_
  rintro e w3 ⟨rfl, hs⟩
  have S3 : St (fun _ => False) w (stars [rmemA gk (List.replicate B 0) 0, memA g (xs0 B), box w.heap.size 59 #[.int .i64 b, .int .i64 r, .int .i64 z, .int .i64 x, .int .i64 y, .slice A n c]]) w3 := hback _ _ hs
  have S3 := Lib.hid S3
  clear hA hback hs S2 hz hp HZ HP HT HTs hTs
  go_wp2_with fail
  obtain ⟨F4, hA, hback⟩ := S3.out.at 0 (by simp)
  refine (HV.out _ _ _ hA).mono ?_
  rintro e w4 ⟨rfl, hs⟩
  have S4 : St (fun _ => False) w (stars [rmemA gk (xs0 B) 1, memA g (xs0 B), box w.heap.size 59 #[.int .i64 b, .int .i64 r, .int .i64 z, .int .i64 x, .int .i64 y, .slice A n c]]) w4 := hback _ _ hs
  have b4 := S4.blk 2 (by simp) rfl
  have c1 : w4.cell? ⟨w.heap.size, 1, none⟩ = some (.int .i64 r) := b4.cell 1
  have c2 : w4.cell? ⟨w.heap.size, 2, none⟩ = some (.int .i64 z) := b4.cell 2
  have c3 : w4.cell? ⟨w.heap.size, 3, none⟩ = some (.int .i64 x) := b4.cell 3
  have c4 : w4.cell? ⟨w.heap.size, 4, none⟩ = some (.int .i64 y) := b4.cell 4
  have S4 := Lib.hid S4
  clear hA hback hs S3 b4
  go_wp2_with fail
  obtain ⟨F5, hA, hback⟩ := S4.out.at 1 (by simp)
  refine (HD.out _ _ _ hA).mono ?_
  rintro e w5 ⟨gq, rfl, hs⟩
  have S5 : St (fun _ => False) w (stars [rmemA gk (xs0 B) 1, drvP g gq X q, box w.heap.size 59 #[.int .i64 b, .int .i64 r, .int .i64 z, .int .i64 x, .int .i64 y, .slice A n c]]) w5 := hback _ _ hs
  have b5 := S5.blk 2 (by simp) rfl
  have d1 : w5.cell? ⟨w.heap.size, 1, none⟩ = some (.int .i64 r) := b5.cell 1
  have d2 : w5.cell? ⟨w.heap.size, 2, none⟩ = some (.int .i64 z) := b5.cell 2
  have d3 : w5.cell? ⟨w.heap.size, 3, none⟩ = some (.int .i64 x) := b5.cell 3
  have d4 : w5.cell? ⟨w.heap.size, 4, none⟩ = some (.int .i64 y) := b5.cell 4
  have S5 := Lib.hid S5
  clear hA hback hs S4 b5 c1 c2 c3 c4
  go_wp2_with fail
  obtain ⟨F6, hA, hback⟩ := S5.out.at 0 (by simp)
  refine (HX.out _ _ _ hA).mono ?_
  rintro e w6 ⟨gx, rfl, hs⟩
  have S6 : St (fun _ => False) w (stars [refP gk gx X 4 q, drvP g gq X q, box w.heap.size 59 #[.int .i64 b, .int .i64 r, .int .i64 z, .int .i64 x, .int .i64 y, .slice A n c]]) w6 := hback _ _ hs
  clear hA hback hs S5 d1 d2 d3 d4
  obtain ⟨F7, hA⟩ := S6.get 0 (by simp)
  obtain ⟨F8, F9, -, -, hk, -⟩ := hA
  have k0 := rmemA_c0 hk
  have ltk := rmemA_lt hk
  have nek := Nat.ne_of_lt ltk
  obtain ⟨F10, hA⟩ := S6.get 1 (by simp)
  obtain ⟨F11, F12, -, -, hm, -⟩ := hA
  have HI : ∀ n, Calls Try.prog 23 #[.pointer (some ⟨g, 0, none⟩)] (w6.drewN n) fun e w' => e = .returned (.string ⟨X.toArray⟩) ∧ w' = w6.drewN n := fun n => (memA_image ((memA g X).keep hm (fun _ _ => rfl) : (memA g X).P F11 (w6.drewN n))).mono fun _ _ h => ⟨h.1, h.2.symm⟩
  obtain ⟨sX, hsX⟩ : ∃ s : ByteArray, (⟨X.toArray⟩ : ByteArray) = s := ⟨_, rfl⟩
  rw [hsX] at HI k0
  have hss := str_self sX
  have HI := Lib.hid HI
  have HF := Lib.hid (S6.weak fun F e => laid_end e)
  clear S6 hk hm hsX
  go_wp2_with fail
  go_quiet ((go_at_call 23; exact Calls.quiet_of_same (HI.out _)))
  go_wp2_with fail
  exact bodyPost_ret (v := .tuple #[.pointer (some ⟨g, 0, none⟩), .pointer (some ⟨gq, 0, none⟩), .pointer (some ⟨gx, 0, none⟩), .bool true]) (laid_results _ _ _ rfl rfl rfl rfl rfl) rfl ⟨g, gq, gk, gx, rfl, HF.out.drewN _⟩
set_option maxRecDepth 100000 in
set_option maxHeartbeats 6400000 in
theorem laid_none (b r z x y : Int) (A : Option Addr) (n c : Nat) (k : layB (xs0 (bytesN b)) r z x y = false) (w : World) :
    Calls Try.prog 22 #[.agg #[.int .i64 b, .int .i64 r, .int .i64 z, .int .i64 x, .int .i64 y, .slice A n c]] w (LaidP b r z x y w) := by
  unfold LaidP
  rw [k]
  obtain ⟨B, hB⟩ : ∃ B, bytesN b = B := ⟨_, rfl⟩
  have hBl := bytesN_le b
  rw [hB] at hBl k
  have HN : ∀ V : Int, V = (B : Int) → ∀ W, Calls Try.prog 7 #[.int .i64 V] W (MadeM B W) := by rintro _ rfl W; exact memA_new B W hBl.1 (by omega)
  have HR : ∀ V : Int, V = (B : Int) → ∀ W, Calls Try.prog 47 #[.int .i64 V] W (MadeR B W) := by rintro _ rfl W; exact rmemA_new B W hBl.1 (by omega)
  have hx0 : (List.replicate B (0 : UInt8)).length = B := List.length_replicate
  have HW : ∀ (F : Nat → Prop) g W, (memA g (List.replicate B 0)).P F W → Calls Try.prog 27 #[.pointer (some ⟨g, 0, none⟩), .int .i64 0, .string stood] W fun e w' => e = .returned (.int .i64 0) ∧ St F W (memA g (xs0 B)) w' := fun F g W h => memA_put h 0 stood (by rw [stood_size, hx0]; omega)
  have HV : ∀ (F : Nat → Prop) g W, (rmemA g (List.replicate B 0) 0).P F W → Calls Try.prog 48 #[.pointer (some ⟨g, 0, none⟩), .int .i64 0, .string stood] W fun e w' => e = .returned (.int .i64 0) ∧ St F W (rmemA g (xs0 B) 1) w' := fun F g W h => rmemA_put h (by omega) 0 stood (by rw [stood_size, hx0]; omega)
  have HD : ∀ (F : Nat → Prop) g W, (memA g (xs0 B)).P F W → Calls Try.prog 8 #[.pointer (some ⟨g, 0, none⟩), .agg #[.int .i64 r, .int .i64 z, .int .i64 x, .int .i64 y]] W fun e w' => e = .returned (.tuple #[.pointer none, .int .i64 140]) ∧ St F W (memA g (xs0 B)) w' := fun F g W h => dnew_bad h r z x y k
  have HX : ∀ (F : Nat → Prop) g W, (rmemA g (xs0 B) 1).P F W → Calls Try.prog 49 #[.pointer (some ⟨g, 0, none⟩), .agg #[.int .i64 r, .int .i64 z, .int .i64 x, .int .i64 y]] W fun e w' => e = .returned (.tuple #[.pointer none, .int .i64 140]) ∧ St F W (rmemA g (xs0 B) 1) w' := fun F g W h => rnew_bad h r z x y k
  have S0 := (St.begin w).push 59 #[.int .i64 b, .int .i64 r, .int .i64 z, .int .i64 x, .int .i64 y, .slice A n c]
  obtain ⟨Z, hZ, hp, -⟩ := made_noughts 30
  have hZ : ∀ W : World, (Instr.makeSlice 82 (.int .i64 30) (.int .i64 30)).run Try.prog W = .ok (.slice (some ⟨W.heap.size, 0, none⟩) 30 30) (W.alloc (.cells Z 5)) := hZ (by omega)
  obtain ⟨T, hT⟩ : ∃ T, noughts 30 = T := ⟨_, rfl⟩
  have hTs : T.size = 30 := by rw [← hT]; exact noughts_size 30
  have hst : T ++ ⟨#[119, 104, 97, 116, 32, 115, 116, 111, 111, 100, 32, 116, 104, 101, 114, 101]⟩ = stood := by rw [← hT]; rfl
  rw [hT] at hp
  have HN := Lib.hid HN
  have HR := Lib.hid HR
  have HW := Lib.hid HW
  have HV := Lib.hid HV
  have HD := Lib.hid HD
  have HX := Lib.hid HX
  have HZ := Lib.hid hZ
  have HP := Lib.hid hp
  have HB := Lib.hid hB
  have HS := Lib.hid S0
  have HT := Lib.hid hst
  have HTs := Lib.hid hTs
  clear hBl k hx0 S0 hZ hp hT hTs hst hB
  go_enter Try.func22, Try.ntmps22
  go_wp2_with fail
  refine (HN.out _ (by have := HB.out; unfold bytesN at this; omega) _).mono ?_
  rintro e w1 ⟨g, F1, rfl, hM, hF1, hb1⟩
  have S1 := Lib.hid (HS.out.add hb1 hM hF1)
  clear hM hF1 hb1
  go_wp2_with fail
  refine (HR.out _ (by have := HB.out; unfold bytesN at this; omega) _).mono ?_
  rintro e w2 ⟨gk, F2, rfl, hM, hF2, hb2⟩
  have S2 : St (fun _ => False) w (stars [rmemA gk (List.replicate B 0) 0, memA g (List.replicate B 0), box w.heap.size 59 #[.int .i64 b, .int .i64 r, .int .i64 z, .int .i64 x, .int .i64 y, .slice A n c]]) w2 := S1.out.add hb2 hM hF2
  have S2 := Lib.hid S2
  clear hM hF2 hb2 S1
  have hz := HZ.out
  have hp := HP.out
  have hTs := HTs.out
  go_wp2_with fail
  rw [HT.out]
  obtain ⟨F3, hA, hback⟩ := (S2.out.alloc (.cells Z 5)).at 1 (by simp)
  refine (HW.out _ _ _ hA).mono ?_
  rintro e w3 ⟨rfl, hs⟩
  have S3 : St (fun _ => False) w (stars [rmemA gk (List.replicate B 0) 0, memA g (xs0 B), box w.heap.size 59 #[.int .i64 b, .int .i64 r, .int .i64 z, .int .i64 x, .int .i64 y, .slice A n c]]) w3 := hback _ _ hs
  have S3 := Lib.hid S3
  clear hA hback hs S2 hz hp HZ HP HT HTs hTs
  go_wp2_with fail
  obtain ⟨F4, hA, hback⟩ := S3.out.at 0 (by simp)
  refine (HV.out _ _ _ hA).mono ?_
  rintro e w4 ⟨rfl, hs⟩
  have S4 : St (fun _ => False) w (stars [rmemA gk (xs0 B) 1, memA g (xs0 B), box w.heap.size 59 #[.int .i64 b, .int .i64 r, .int .i64 z, .int .i64 x, .int .i64 y, .slice A n c]]) w4 := hback _ _ hs
  have b4 := S4.blk 2 (by simp) rfl
  have c1 : w4.cell? ⟨w.heap.size, 1, none⟩ = some (.int .i64 r) := b4.cell 1
  have c2 : w4.cell? ⟨w.heap.size, 2, none⟩ = some (.int .i64 z) := b4.cell 2
  have c3 : w4.cell? ⟨w.heap.size, 3, none⟩ = some (.int .i64 x) := b4.cell 3
  have c4 : w4.cell? ⟨w.heap.size, 4, none⟩ = some (.int .i64 y) := b4.cell 4
  have S4 := Lib.hid S4
  clear hA hback hs S3 b4
  go_wp2_with fail
  obtain ⟨F5, hA, hback⟩ := S4.out.at 1 (by simp)
  refine (HD.out _ _ _ hA).mono ?_
  rintro e w5 ⟨rfl, hs⟩
  have S5 : St (fun _ => False) w (stars [rmemA gk (xs0 B) 1, memA g (xs0 B), box w.heap.size 59 #[.int .i64 b, .int .i64 r, .int .i64 z, .int .i64 x, .int .i64 y, .slice A n c]]) w5 := hback _ _ hs
  have b5 := S5.blk 2 (by simp) rfl
  have d1 : w5.cell? ⟨w.heap.size, 1, none⟩ = some (.int .i64 r) := b5.cell 1
  have d2 : w5.cell? ⟨w.heap.size, 2, none⟩ = some (.int .i64 z) := b5.cell 2
  have d3 : w5.cell? ⟨w.heap.size, 3, none⟩ = some (.int .i64 x) := b5.cell 3
  have d4 : w5.cell? ⟨w.heap.size, 4, none⟩ = some (.int .i64 y) := b5.cell 4
  have S5 := Lib.hid S5
  clear hA hback hs S4 b5 c1 c2 c3 c4
  go_wp2_with fail
  obtain ⟨F6, hA, hback⟩ := S5.out.at 0 (by simp)
  refine (HX.out _ _ _ hA).mono ?_
  rintro e w6 ⟨rfl, hs⟩
  have S6 : St (fun _ => False) w (stars [rmemA gk (xs0 B) 1, memA g (xs0 B), box w.heap.size 59 #[.int .i64 b, .int .i64 r, .int .i64 z, .int .i64 x, .int .i64 y, .slice A n c]]) w6 := hback _ _ hs
  clear hA hback hs S5 d1 d2 d3 d4
  obtain ⟨X, hX0⟩ : ∃ X, xs0 B = X := ⟨_, rfl⟩
  rw [hX0] at S6
  obtain ⟨F7, hk⟩ := S6.get 0 (by simp)
  have k0 := rmemA_c0 hk
  have ltk := rmemA_lt hk
  have nek := Nat.ne_of_lt ltk
  obtain ⟨F11, hm⟩ := S6.get 1 (by simp)
  have HI : ∀ n, Calls Try.prog 23 #[.pointer (some ⟨g, 0, none⟩)] (w6.drewN n) fun e w' => e = .returned (.string ⟨X.toArray⟩) ∧ w' = w6.drewN n := fun n => (memA_image ((memA g X).keep hm (fun _ _ => rfl) : (memA g X).P F11 (w6.drewN n))).mono fun _ _ h => ⟨h.1, h.2.symm⟩
  obtain ⟨sX, hsX⟩ : ∃ s : ByteArray, (⟨X.toArray⟩ : ByteArray) = s := ⟨_, rfl⟩
  rw [hsX] at HI k0
  have hss := str_self sX
  have HI := Lib.hid HI
  have HF := Lib.hid S6
  clear S6 hk hm hsX hX0
  go_wp2_with fail
  go_quiet ((go_at_call 23; exact Calls.quiet_of_same (HI.out _)))
  go_wp2_with fail
  exact bodyPost_ret (v := .tuple #[.pointer (some ⟨g, 0, none⟩), .pointer none, .pointer none, .bool true]) (laid_results _ _ _ rfl rfl rfl rfl rfl) rfl ⟨⟨_, rfl⟩, (HF.out.drewN _).law⟩
theorem laid_v (b r z x y : Int) (A : Option Addr) (n c : Nat) (w : World) :
    Calls Try.prog 22 #[.agg #[.int .i64 b, .int .i64 r, .int .i64 z, .int .i64 x, .int .i64 y, .slice A n c]] w (LaidP b r z x y w) := by
  cases k : layB (xs0 (bytesN b)) r z x y
  · exact laid_none b r z x y A n c k w
  · exact laid_good b r z x y A n c k w
end Go.Proofs.Ytbpgblmhacpjlaa
