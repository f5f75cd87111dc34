/-
  What the law lays; calls among many things; the calls whose answers the document fixes.
-/
import Derived.Test.YtbpgblmhacpjlaaGreatSRn
import Derived.Test.YtbpgblmhacpjlaaGreatZi
import Derived.Test.YtbpgblmhacpjlaaGreatZm
import Derived.Test.YtbpgblmhacpjlaaGreatZk
import Derived.Deep.RegionHeld3
namespace Go.Proofs.YtbpgblmhacpjlaaGreat
open Go.RowKit

def bytesN (b : Int) : Nat := (max 64 (min b 2048)).toNat
theorem bytesN_le (b : Int) : 64 ≤ bytesN b ∧ bytesN b ≤ 2048 := by unfold bytesN; omega
/-- what stood there -/
def stood : ByteArray := noughts 30 ++ ⟨#[119, 104, 97, 116, 32, 115, 116, 111, 111, 100, 32, 116, 104, 101, 114, 101]⟩
theorem stood_size : stood.size = 46 := by unfold stood; rw [ByteArray.size_append, noughts_size]; rfl
def xs0 (n : Nat) : List UInt8 := over (List.replicate n 0) 0 stood
theorem xs0_length {n : Nat} (h : 64 ≤ n) : (xs0 n).length = n := by
  unfold xs0
  rw [over_length _ _ _ (by rw [stood_size, List.length_replicate]; omega), List.length_replicate]
/-- the code's memory and queue; the document's -/
def drvP (g gq : Nat) (xs : List UInt8) (q : Vs) : As := stars [memA g xs, drvA gq g q]
def refP (g gx : Nat) (xs : List UInt8) (n : Nat) (q : Vs) : As := stars [rmemA g xs n, refA gx g q]
/-- the bytes behind New -/
def layX (b r z x y : Int) : List UInt8 := newX (xs0 (bytesN b)) r.toNat z.toNat x.toNat y.toNat
def LaidP (b r z x y : Int) (w : World) (e : Ending) (w' : World) : Prop :=
  if layB (xs0 (bytesN b)) r z x y then ∃ g gq gk gx, e = .returned (.tuple #[.pointer (some ⟨g, 0, none⟩), .pointer (some ⟨gq, 0, none⟩), .pointer (some ⟨gx, 0, none⟩), .bool true]) ∧ St (fun _ => False) w (stars [drvP g gq (layX b r z x y) (newV r z x y), refP gk gx (layX b r z x y) 4 (newV r z x y)]) w'
  else ∃ p, e = .returned (.tuple #[p, .pointer none, .pointer none, .bool true]) ∧ Below w.heap.size w w'
theorem str_self (s : ByteArray) : (s.toList == s.toList) = true := by simp
theorem laid_results (f : Func) (w : World) (tmps : Array Value) (hf : f.results = Tryz.f4.results) {a b c d : Value} (h2 : tmps[2]?.getD undef = a) (h3 : tmps[3]?.getD undef = b) (h4 : tmps[4]?.getD undef = c) (h5 : tmps[5]?.getD undef = d) :
    (results f tmps).run Tryz.prog w = .ok (.tuple #[a, b, c, d]) w := by
  simp [results, hf, Tryz.results4, go_sem, h2, h3, h4, h5]
theorem laid_end {F : Nat → Prop} {w : World} {A B C : As} (h : (stars [A, B, C]).P F w) : ∃ F', (stars [B, A]).P F' w ∧ ∀ k, F' k → F k := by
  obtain ⟨F1, F2, hF, d, a, F3, F4, hF2, d2, b, c⟩ := h
  refine ⟨fun k => F3 k ∨ F1 k, ⟨F3, F1, fun k => Iff.rfl, fun k e e' => d k e' ((hF2 k).2 (.inl e)), b, F1, fun _ => False, fun k => by simp, fun k _ e => e, a, fun _ e => e⟩, fun k hk => ?_⟩
  rcases hk with e | e
  · exact (hF k).2 (.inr ((hF2 k).2 (.inl e)))
  · exact (hF k).2 (.inl e)
theorem St.weak {F0 : Nat → Prop} {w0 w : World} {A B : As} (h : St F0 w0 A w) (hAB : ∀ F, A.P F w → ∃ F', B.P F' w ∧ ∀ k, F' k → F k) : St F0 w0 B w := by
  obtain ⟨F, a, hs, hF⟩ := h
  obtain ⟨F', b, hb⟩ := hAB F a
  exact ⟨F', b, hs, fun k hk => hF k (hb k hk)⟩
set_option maxRecDepth 100000 in
set_option maxHeartbeats 6400000 in
theorem laid_good (b r z x y : Int) (A : Option Addr) (n c : Nat) (k : layB (xs0 (bytesN b)) r z x y = true) (w : World) :
    Calls Tryz.prog 4 #[.agg #[.int .i64 b, .int .i64 r, .int .i64 z, .int .i64 x, .int .i64 y, .slice A n c]] w (LaidP b r z x y w) := by
  unfold LaidP
  rw [k]
  obtain ⟨B, hB⟩ : ∃ B, bytesN b = B := ⟨_, rfl⟩
  have hBl := bytesN_le b
  rw [hB] at hBl k
  have HN : ∀ V : Int, V = (B : Int) → ∀ W, Calls Tryz.prog 22 #[.int .i64 V] W (MadeM B W) := by rintro _ rfl W; exact memA_new B W hBl.1 (by omega)
  have HR : ∀ V : Int, V = (B : Int) → ∀ W, Calls Tryz.prog 23 #[.int .i64 V] W (MadeR B W) := by rintro _ rfl W; exact rmemA_new B W hBl.1 (by omega)
  have hx0 : (List.replicate B (0 : UInt8)).length = B := List.length_replicate
  have HW : ∀ (F : Nat → Prop) g W, (memA g (List.replicate B 0)).P F W → Calls Tryz.prog 10 #[.pointer (some ⟨g, 0, none⟩), .int .i64 0, .string stood] W fun e w' => e = .returned (.int .i64 0) ∧ St F W (memA g (xs0 B)) w' := fun F g W h => memA_put h 0 stood (by rw [stood_size, hx0]; omega)
  have HV : ∀ (F : Nat → Prop) g W, (rmemA g (List.replicate B 0) 0).P F W → Calls Tryz.prog 12 #[.pointer (some ⟨g, 0, none⟩), .int .i64 0, .string stood] W fun e w' => e = .returned (.int .i64 0) ∧ St F W (rmemA g (xs0 B) 1) w' := fun F g W h => rmemA_put h (by omega) 0 stood (by rw [stood_size, hx0]; omega)
  have HD : ∀ (F : Nat → Prop) g W, (memA g (xs0 B)).P F W → Calls Tryz.prog 24 #[.pointer (some ⟨g, 0, none⟩), .agg #[.int .i64 r, .int .i64 z, .int .i64 x, .int .i64 y]] W fun e w' => ∃ gq, e = .returned (.tuple #[.pointer (some ⟨gq, 0, none⟩), .int .i64 0]) ∧ St F W (drvP g gq (layX b r z x y) (newV r z x y)) w' := fun F g W h => by
    have := dnew_v h r z x y
    unfold NewD at this
    rw [k] at this
    refine this.mono fun e w' hh => ?_
    rw [if_pos rfl] at hh
    unfold layX
    rw [hB]; exact hh
  have HX : ∀ (F : Nat → Prop) g W, (rmemA g (xs0 B) 1).P F W → Calls Tryz.prog 25 #[.pointer (some ⟨g, 0, none⟩), .agg #[.int .i64 r, .int .i64 z, .int .i64 x, .int .i64 y]] W fun e w' => ∃ gx, e = .returned (.tuple #[.pointer (some ⟨gx, 0, none⟩), .int .i64 0]) ∧ St F W (refP g gx (layX b r z x y) 4 (newV r z x y)) w' := fun F g W h => by
    have := rnew_v h (by omega) r z x y
    unfold NewR at this
    rw [k] at this
    refine this.mono fun e w' hh => ?_
    rw [if_pos rfl] at hh
    unfold layX
    rw [hB]; exact hh
  obtain ⟨X, hX⟩ : ∃ X, layX b r z x y = X := ⟨_, rfl⟩
  obtain ⟨q, hq⟩ : ∃ q, newV r z x y = q := ⟨_, rfl⟩
  rw [hX, hq] at HD HX ⊢
  have S0 := (St.begin w).push 26 #[.int .i64 b, .int .i64 r, .int .i64 z, .int .i64 x, .int .i64 y, .slice A n c]
  obtain ⟨Z, hZ, hp, -⟩ := made_noughts 30
  have hZ : ∀ W : World, (Instr.makeSlice 65 (.int .i64 30) (.int .i64 30)).run Tryz.prog W = .ok (.slice (some ⟨W.heap.size, 0, none⟩) 30 30) (W.alloc (.cells Z 5)) := hZ (by omega)
  obtain ⟨T, hT⟩ : ∃ T, noughts 30 = T := ⟨_, rfl⟩
  have hTs : T.size = 30 := by rw [← hT]; exact noughts_size 30
  have hst : T ++ ⟨#[119, 104, 97, 116, 32, 115, 116, 111, 111, 100, 32, 116, 104, 101, 114, 101]⟩ = stood := by rw [← hT]; rfl
  rw [hT] at hp
  have HN := Lib.hid HN
  have HR := Lib.hid HR
  have HW := Lib.hid HW
  have HV := Lib.hid HV
  have HD := Lib.hid HD
  have HX := Lib.hid HX
  have HZ := Lib.hid hZ
  have HP := Lib.hid hp
  have HB := Lib.hid hB
  have HS := Lib.hid S0
  have HT := Lib.hid hst
  have HTs := Lib.hid hTs
  clear hBl k hx0 hX hq S0 hZ hp hT hTs hst hB
  go_enter Tryz.func4, Tryz.ntmps4
  go_wp2_with fail
  refine (HN.out _ (by have := HB.out; unfold bytesN at this; omega) _).mono ?_
  rintro e w1 ⟨g, F1, rfl, hM, hF1, hb1⟩
  have S1 := Lib.hid (HS.out.add hb1 hM hF1)
  clear hM hF1 hb1
  go_wp2_with fail
  refine (HR.out _ (by have := HB.out; unfold bytesN at this; omega) _).mono ?_
  rintro e w2 ⟨gk, F2, rfl, hM, hF2, hb2⟩
  have S2 : St (fun _ => False) w (stars [rmemA gk (List.replicate B 0) 0, memA g (List.replicate B 0), box w.heap.size 26 #[.int .i64 b, .int .i64 r, .int .i64 z, .int .i64 x, .int .i64 y, .slice A n c]]) w2 := S1.out.add hb2 hM hF2
  have S2 := Lib.hid S2
  clear hM hF2 hb2 S1
  have hz := HZ.out
  have hp := HP.out
  have hTs := HTs.out
  go_wp2_with fail
  rw [HT.out]
  obtain ⟨F3, hA, hback⟩ := (S2.out.alloc (.cells Z 5)).at 1 (by simp)
  refine (HW.out _ _ _ hA).mono ?_
  rintro e w3 ⟨rfl, hs⟩
  have S3 : St (fun _ => False) w (stars [rmemA gk (List.replicate B 0) 0, memA g (xs0 B), box w.heap.size 26 #[.int .i64 b, .int .i64 r, .int .i64 z, .int .i64 x, .int .i64 y, .slice A n c]]) w3 := hback _ _ hs
  have S3 := Lib.hid S3
  clear hA hback hs S2 hz hp HZ HP HT HTs hTs
  go_wp2_with fail
  obtain ⟨F4, hA, hback⟩ := S3.out.at 0 (by simp)
  refine (HV.out _ _ _ hA).mono ?_
  rintro e w4 ⟨rfl, hs⟩
  have S4 : St (fun _ => False) w (stars [rmemA gk (xs0 B) 1, memA g (xs0 B), box w.heap.size 26 #[.int .i64 b, .int .i64 r, .int .i64 z, .int .i64 x, .int .i64 y, .slice A n c]]) w4 := hback _ _ hs
  have b4 := S4.blk 2 (by simp) rfl
  have c1 : w4.cell? ⟨w.heap.size, 1, none⟩ = some (.int .i64 r) := b4.cell 1
  have c2 : w4.cell? ⟨w.heap.size, 2, none⟩ = some (.int .i64 z) := b4.cell 2
  have c3 : w4.cell? ⟨w.heap.size, 3, none⟩ = some (.int .i64 x) := b4.cell 3
  have c4 : w4.cell? ⟨w.heap.size, 4, none⟩ = some (.int .i64 y) := b4.cell 4
  have S4 := Lib.hid S4
  clear hA hback hs S3 b4
  go_wp2_with fail
  obtain ⟨F5, hA, hback⟩ := S4.out.at 1 (by simp)
  refine (HD.out _ _ _ hA).mono ?_
  rintro e w5 ⟨gq, rfl, hs⟩
  have S5 : St (fun _ => False) w (stars [rmemA gk (xs0 B) 1, drvP g gq X q, box w.heap.size 26 #[.int .i64 b, .int .i64 r, .int .i64 z, .int .i64 x, .int .i64 y, .slice A n c]]) w5 := hback _ _ hs
  have b5 := S5.blk 2 (by simp) rfl
  have d1 : w5.cell? ⟨w.heap.size, 1, none⟩ = some (.int .i64 r) := b5.cell 1
  have d2 : w5.cell? ⟨w.heap.size, 2, none⟩ = some (.int .i64 z) := b5.cell 2
  have d3 : w5.cell? ⟨w.heap.size, 3, none⟩ = some (.int .i64 x) := b5.cell 3
  have d4 : w5.cell? ⟨w.heap.size, 4, none⟩ = some (.int .i64 y) := b5.cell 4
  have S5 := Lib.hid S5
  clear hA hback hs S4 b5 c1 c2 c3 c4
  go_wp2_with fail
  obtain ⟨F6, hA, hback⟩ := S5.out.at 0 (by simp)
  refine (HX.out _ _ _ hA).mono ?_
  rintro e w6 ⟨gx, rfl, hs⟩
  have S6 : St (fun _ => False) w (stars [refP gk gx X 4 q, drvP g gq X q, box w.heap.size 26 #[.int .i64 b, .int .i64 r, .int .i64 z, .int .i64 x, .int .i64 y, .slice A n c]]) w6 := hback _ _ hs
  clear hA hback hs S5 d1 d2 d3 d4
  obtain ⟨F7, hA⟩ := S6.get 0 (by simp)
  obtain ⟨F8, F9, -, -, hk, -⟩ := hA
  have k0 := rmemA_c0 hk
  have ltk := rmemA_lt hk
  have nek := Nat.ne_of_lt ltk
  obtain ⟨F10, hA⟩ := S6.get 1 (by simp)
  obtain ⟨F11, F12, -, -, hm, -⟩ := hA
  have HI : ∀ n, Calls Tryz.prog 26 #[.pointer (some ⟨g, 0, none⟩)] (w6.drewN n) fun e w' => e = .returned (.string ⟨X.toArray⟩) ∧ w' = w6.drewN n := fun n => (memA_image ((memA g X).keep hm (fun _ _ => rfl) : (memA g X).P F11 (w6.drewN n))).mono fun _ _ h => ⟨h.1, h.2.symm⟩
  obtain ⟨sX, hsX⟩ : ∃ s : ByteArray, (⟨X.toArray⟩ : ByteArray) = s := ⟨_, rfl⟩
  rw [hsX] at HI k0
  have hss := str_self sX
  have HI := Lib.hid HI
  have HF := Lib.hid (S6.weak fun F e => laid_end e)
  clear S6 hk hm hsX
  go_wp2_with fail
  go_quiet ((go_at_call 26; exact Calls.quiet_of_same (HI.out _)))
  go_wp2_with fail
  exact bodyPost_ret (v := .tuple #[.pointer (some ⟨g, 0, none⟩), .pointer (some ⟨gq, 0, none⟩), .pointer (some ⟨gx, 0, none⟩), .bool true]) (laid_results _ _ _ rfl rfl rfl rfl rfl) rfl ⟨g, gq, gk, gx, rfl, HF.out.drewN _⟩
set_option maxRecDepth 100000 in
set_option maxHeartbeats 6400000 in
theorem laid_none (b r z x y : Int) (A : Option Addr) (n c : Nat) (k : layB (xs0 (bytesN b)) r z x y = false) (w : World) :
    Calls Tryz.prog 4 #[.agg #[.int .i64 b, .int .i64 r, .int .i64 z, .int .i64 x, .int .i64 y, .slice A n c]] w (LaidP b r z x y w) := by
  unfold LaidP
  rw [k]
  obtain ⟨B, hB⟩ : ∃ B, bytesN b = B := ⟨_, rfl⟩
  have hBl := bytesN_le b
  rw [hB] at hBl k
  have HN : ∀ V : Int, V = (B : Int) → ∀ W, Calls Tryz.prog 22 #[.int .i64 V] W (MadeM B W) := by rintro _ rfl W; exact memA_new B W hBl.1 (by omega)
  have HR : ∀ V : Int, V = (B : Int) → ∀ W, Calls Tryz.prog 23 #[.int .i64 V] W (MadeR B W) := by rintro _ rfl W; exact rmemA_new B W hBl.1 (by omega)
  have hx0 : (List.replicate B (0 : UInt8)).length = B := List.length_replicate
  have HW : ∀ (F : Nat → Prop) g W, (memA g (List.replicate B 0)).P F W → Calls Tryz.prog 10 #[.pointer (some ⟨g, 0, none⟩), .int .i64 0, .string stood] W fun e w' => e = .returned (.int .i64 0) ∧ St F W (memA g (xs0 B)) w' := fun F g W h => memA_put h 0 stood (by rw [stood_size, hx0]; omega)
  have HV : ∀ (F : Nat → Prop) g W, (rmemA g (List.replicate B 0) 0).P F W → Calls Tryz.prog 12 #[.pointer (some ⟨g, 0, none⟩), .int .i64 0, .string stood] W fun e w' => e = .returned (.int .i64 0) ∧ St F W (rmemA g (xs0 B) 1) w' := fun F g W h => rmemA_put h (by omega) 0 stood (by rw [stood_size, hx0]; omega)
  have HD : ∀ (F : Nat → Prop) g W, (memA g (xs0 B)).P F W → Calls Tryz.prog 24 #[.pointer (some ⟨g, 0, none⟩), .agg #[.int .i64 r, .int .i64 z, .int .i64 x, .int .i64 y]] W fun e w' => e = .returned (.tuple #[.pointer none, .int .i64 140]) ∧ St F W (memA g (xs0 B)) w' := fun F g W h => dnew_bad h r z x y k
  have HX : ∀ (F : Nat → Prop) g W, (rmemA g (xs0 B) 1).P F W → Calls Tryz.prog 25 #[.pointer (some ⟨g, 0, none⟩), .agg #[.int .i64 r, .int .i64 z, .int .i64 x, .int .i64 y]] W fun e w' => e = .returned (.tuple #[.pointer none, .int .i64 140]) ∧ St F W (rmemA g (xs0 B) 1) w' := fun F g W h => rnew_bad h r z x y k
  have S0 := (St.begin w).push 26 #[.int .i64 b, .int .i64 r, .int .i64 z, .int .i64 x, .int .i64 y, .slice A n c]
  obtain ⟨Z, hZ, hp, -⟩ := made_noughts 30
  have hZ : ∀ W : World, (Instr.makeSlice 65 (.int .i64 30) (.int .i64 30)).run Tryz.prog W = .ok (.slice (some ⟨W.heap.size, 0, none⟩) 30 30) (W.alloc (.cells Z 5)) := hZ (by omega)
  obtain ⟨T, hT⟩ : ∃ T, noughts 30 = T := ⟨_, rfl⟩
  have hTs : T.size = 30 := by rw [← hT]; exact noughts_size 30
  have hst : T ++ ⟨#[119, 104, 97, 116, 32, 115, 116, 111, 111, 100, 32, 116, 104, 101, 114, 101]⟩ = stood := by rw [← hT]; rfl
  rw [hT] at hp
  have HN := Lib.hid HN
  have HR := Lib.hid HR
  have HW := Lib.hid HW
  have HV := Lib.hid HV
  have HD := Lib.hid HD
  have HX := Lib.hid HX
  have HZ := Lib.hid hZ
  have HP := Lib.hid hp
  have HB := Lib.hid hB
  have HS := Lib.hid S0
  have HT := Lib.hid hst
  have HTs := Lib.hid hTs
  clear hBl k hx0 S0 hZ hp hT hTs hst hB
  go_enter Tryz.func4, Tryz.ntmps4
  go_wp2_with fail
  refine (HN.out _ (by have := HB.out; unfold bytesN at this; omega) _).mono ?_
  rintro e w1 ⟨g, F1, rfl, hM, hF1, hb1⟩
  have S1 := Lib.hid (HS.out.add hb1 hM hF1)
  clear hM hF1 hb1
  go_wp2_with fail
  refine (HR.out _ (by have := HB.out; unfold bytesN at this; omega) _).mono ?_
  rintro e w2 ⟨gk, F2, rfl, hM, hF2, hb2⟩
  have S2 : St (fun _ => False) w (stars [rmemA gk (List.replicate B 0) 0, memA g (List.replicate B 0), box w.heap.size 26 #[.int .i64 b, .int .i64 r, .int .i64 z, .int .i64 x, .int .i64 y, .slice A n c]]) w2 := S1.out.add hb2 hM hF2
  have S2 := Lib.hid S2
  clear hM hF2 hb2 S1
  have hz := HZ.out
  have hp := HP.out
  have hTs := HTs.out
  go_wp2_with fail
  rw [HT.out]
  obtain ⟨F3, hA, hback⟩ := (S2.out.alloc (.cells Z 5)).at 1 (by simp)
  refine (HW.out _ _ _ hA).mono ?_
  rintro e w3 ⟨rfl, hs⟩
  have S3 : St (fun _ => False) w (stars [rmemA gk (List.replicate B 0) 0, memA g (xs0 B), box w.heap.size 26 #[.int .i64 b, .int .i64 r, .int .i64 z, .int .i64 x, .int .i64 y, .slice A n c]]) w3 := hback _ _ hs
  have S3 := Lib.hid S3
  clear hA hback hs S2 hz hp HZ HP HT HTs hTs
  go_wp2_with fail
  obtain ⟨F4, hA, hback⟩ := S3.out.at 0 (by simp)
  refine (HV.out _ _ _ hA).mono ?_
  rintro e w4 ⟨rfl, hs⟩
  have S4 : St (fun _ => False) w (stars [rmemA gk (xs0 B) 1, memA g (xs0 B), box w.heap.size 26 #[.int .i64 b, .int .i64 r, .int .i64 z, .int .i64 x, .int .i64 y, .slice A n c]]) w4 := hback _ _ hs
  have b4 := S4.blk 2 (by simp) rfl
  have c1 : w4.cell? ⟨w.heap.size, 1, none⟩ = some (.int .i64 r) := b4.cell 1
  have c2 : w4.cell? ⟨w.heap.size, 2, none⟩ = some (.int .i64 z) := b4.cell 2
  have c3 : w4.cell? ⟨w.heap.size, 3, none⟩ = some (.int .i64 x) := b4.cell 3
  have c4 : w4.cell? ⟨w.heap.size, 4, none⟩ = some (.int .i64 y) := b4.cell 4
  have S4 := Lib.hid S4
  clear hA hback hs S3 b4
  go_wp2_with fail
  obtain ⟨F5, hA, hback⟩ := S4.out.at 1 (by simp)
  refine (HD.out _ _ _ hA).mono ?_
  rintro e w5 ⟨rfl, hs⟩
  have S5 : St (fun _ => False) w (stars [rmemA gk (xs0 B) 1, memA g (xs0 B), box w.heap.size 26 #[.int .i64 b, .int .i64 r, .int .i64 z, .int .i64 x, .int .i64 y, .slice A n c]]) w5 := hback _ _ hs
  have b5 := S5.blk 2 (by simp) rfl
  have d1 : w5.cell? ⟨w.heap.size, 1, none⟩ = some (.int .i64 r) := b5.cell 1
  have d2 : w5.cell? ⟨w.heap.size, 2, none⟩ = some (.int .i64 z) := b5.cell 2
  have d3 : w5.cell? ⟨w.heap.size, 3, none⟩ = some (.int .i64 x) := b5.cell 3
  have d4 : w5.cell? ⟨w.heap.size, 4, none⟩ = some (.int .i64 y) := b5.cell 4
  have S5 := Lib.hid S5
  clear hA hback hs S4 b5 c1 c2 c3 c4
  go_wp2_with fail
  obtain ⟨F6, hA, hback⟩ := S5.out.at 0 (by simp)
  refine (HX.out _ _ _ hA).mono ?_
  rintro e w6 ⟨rfl, hs⟩
  have S6 : St (fun _ => False) w (stars [rmemA gk (xs0 B) 1, memA g (xs0 B), box w.heap.size 26 #[.int .i64 b, .int .i64 r, .int .i64 z, .int .i64 x, .int .i64 y, .slice A n c]]) w6 := hback _ _ hs
  clear hA hback hs S5 d1 d2 d3 d4
  obtain ⟨X, hX0⟩ : ∃ X, xs0 B = X := ⟨_, rfl⟩
  rw [hX0] at S6
  obtain ⟨F7, hk⟩ := S6.get 0 (by simp)
  have k0 := rmemA_c0 hk
  have ltk := rmemA_lt hk
  have nek := Nat.ne_of_lt ltk
  obtain ⟨F11, hm⟩ := S6.get 1 (by simp)
  have HI : ∀ n, Calls Tryz.prog 26 #[.pointer (some ⟨g, 0, none⟩)] (w6.drewN n) fun e w' => e = .returned (.string ⟨X.toArray⟩) ∧ w' = w6.drewN n := fun n => (memA_image ((memA g X).keep hm (fun _ _ => rfl) : (memA g X).P F11 (w6.drewN n))).mono fun _ _ h => ⟨h.1, h.2.symm⟩
  obtain ⟨sX, hsX⟩ : ∃ s : ByteArray, (⟨X.toArray⟩ : ByteArray) = s := ⟨_, rfl⟩
  rw [hsX] at HI k0
  have hss := str_self sX
  have HI := Lib.hid HI
  have HF := Lib.hid S6
  clear S6 hk hm hsX hX0
  go_wp2_with fail
  go_quiet ((go_at_call 26; exact Calls.quiet_of_same (HI.out _)))
  go_wp2_with fail
  exact bodyPost_ret (v := .tuple #[.pointer (some ⟨g, 0, none⟩), .pointer none, .pointer none, .bool true]) (laid_results _ _ _ rfl rfl rfl rfl rfl) rfl ⟨⟨_, rfl⟩, (HF.out.drewN _).law⟩
theorem laid_v (b r z x y : Int) (A : Option Addr) (n c : Nat) (w : World) :
    Calls Tryz.prog 4 #[.agg #[.int .i64 b, .int .i64 r, .int .i64 z, .int .i64 x, .int .i64 y, .slice A n c]] w (LaidP b r z x y w) := by
  cases k : layB (xs0 (bytesN b)) r z x y
  · exact laid_none b r z x y A n c k w
  · exact laid_good b r z x y A n c k w
end Go.Proofs.YtbpgblmhacpjlaaGreat
namespace Go.Proofs.YtbpgblmhacpjlaaGreat
open Go.RowKit

/-- a memory's clone -/
def MadeM' (xs : List UInt8) (w : World) (e : Ending) (w' : World) : Prop := ∃ g F, e = .returned (.pointer (some ⟨g, 0, none⟩)) ∧ (memA g xs).P F w' ∧ (∀ k, F k → w.heap.size ≤ k) ∧ Below w.heap.size w w'
theorem memA_clone {F : Nat → Prop} {w : World} {g : Nat} {xs : List UInt8} (h : (memA g xs).P F w) : Calls Tryz.prog 17 #[.pointer (some ⟨g, 0, none⟩)] w (MadeM' xs w) := by
  obtain ⟨gb, lv, hM, hF⟩ := h
  refine (clone_m hM).mono fun e w' hh => ?_
  obtain ⟨g2, gb2, lv2, he, hM2, hb⟩ := hh
  refine ⟨g2, fun k => k = g2 ∨ k = gb2 ∨ lv2.ownBlock = some k, he, ⟨gb2, lv2, ?_, fun _ => Iff.rfl⟩, fun k hk => ?_, hb⟩
  · obtain ⟨ag, lg, old, r⟩ := hM2
    exact ⟨ag, lg, old, Nat.zero_le _, Nat.zero_le _, r.blk, r.row, own_base r.log (Nat.zero_le _), r.len, r.pos, r.most, r.full⟩
  · obtain ⟨a, b, c⟩ := hM2.ge
    rcases hk with rfl | rfl | e
    · exact a
    · exact b
    · exact c k e
section
variable {F0 : Nat → Prop} {w0 w w' : World} {l : List As}
theorem St.aty (h : St F0 w0 (stars l) w) (i : Nat) (hi : i < l.length) : ∃ F, l[i].P F w ∧ (∀ k, F k → F0 k ∨ w0.heap.size ≤ k) ∧ (∃ F2, (stars (l.eraseIdx i)).P F2 w ∧ ∀ k, F k → ¬ F2 k) ∧ ∀ (A' : As) (w' : World), St F w A' w' → St F0 w0 (stars (l.set i A')) w' := by
  obtain ⟨F, hA, hF, hr, hb⟩ := St.cally (h.mono (fun F e => stars_pull l i hi F e))
  exact ⟨F, hA, hF, hr, fun A' w' hs => (hb A' w' hs).mono (fun F e => stars_back l i hi A' F e)⟩
/-- no part's block is one of what is called -/
def Off (F0 : Nat → Prop) (w0 w : World) (l : List As) (i : Nat) (A : Option Addr) : Prop :=
  ∀ F F2 : Nat → Prop, (∀ k, F k → F0 k ∨ w0.heap.size ≤ k) → (stars (l.eraseIdx i)).P F2 w → (∀ k, F k → ¬ F2 k) → ∀ ad : Addr, A = some ad → ¬ F ad.block
theorem off_none {i : Nat} : Off F0 w0 w l i none := fun _ _ _ _ _ ad e => by cases e
theorem off_box {i m K o : Nat} {t : TypeId} {cs : Array Value} (hm : m < (l.eraseIdx i).length) (he : (l.eraseIdx i)[m] = box K t cs) : Off F0 w0 w l i (some ⟨K, o, none⟩) := fun F F2 _ h2 hd ad e hF => by
  injection e with e
  subst e
  exact hd _ hF (stars_has _ m hm he h2)
theorem off_row {i m n c : Nat} {e : TypeId} {size : Nat} {A : Option Addr} {xs : List Value} (hm : m < (l.eraseIdx i).length) (he : (l.eraseIdx i)[m] = rowA e size (.slice A n c) n xs) (hA : ∀ ad, A = some ad → (Value.slice A n c).ownBlock = some ad.block) : Off F0 w0 w l i A := fun _ _ _ h2 hd ad e' hF =>
  hd _ hF (stars_hasRow _ m hm he (hA ad e') h2)
theorem off_old {i : Nat} {A : Option Addr} (hA : ∀ ad : Addr, A = some ad → ad.block < w0.heap.size) : Off (fun _ => False) w0 w l i A := fun F _ hF _ _ ad e hFa => by
  rcases hF _ hFa with x | x
  · exact x
  · have := hA ad e; omega
variable {g gq : Nat} {xs : List UInt8} {q : Vs}
theorem St.post (h : St F0 w0 (stars l) w) (i : Nat) (hi : i < l.length) (he : l[i] = drvP g gq xs q) (hq : q.Ok xs.length) (hs : q.since ≤ 1099511627776) {ps : List IPt} {A : Option Addr} {cap : Nat} (hP : PsAt A ps w) (ho : Off F0 w0 w l i A) (hl : ps.length ≤ 1099511627776)
    (hN : ∀ j (h : j < ps.length), ps[j].n < 9223372036854775808) (r : Int × Int × List UInt8 × Vs) (hr : postC xs q ps = r) :
    Calls Tryz.prog 5 #[.pointer (some ⟨gq, 0, none⟩), .slice A ps.length cap] w fun e w' => e = .returned (.tuple #[.int .i64 r.1, .int .i64 r.2.1]) ∧ St F0 w0 (stars (l.set i (drvP g gq r.2.2.1 r.2.2.2))) w' := by
  obtain ⟨F, hA, hF, ⟨F2, h2, hd⟩, hb⟩ := h.aty i hi
  rw [he] at hA
  exact (post_v hA hq hs hP (ho F F2 hF h2 hd) hl hN r hr).mono fun _ _ ⟨h1, h2⟩ => ⟨h1, hb _ _ h2⟩
theorem St.reap (h : St F0 w0 (stars l) w) (i : Nat) (hi : i < l.length) (he : l[i] = drvP g gq xs q) (hq : q.Ok xs.length) (r : Int × Int × Bool × Int × Vs) (hr : reapC xs q = r) :
    Calls Tryz.prog 8 #[.pointer (some ⟨gq, 0, none⟩)] w fun e w' => e = .returned (.tuple #[.int .i64 r.1, .int .i64 r.2.1, .bool r.2.2.1, .int .i64 r.2.2.2.1]) ∧ St F0 w0 (stars (l.set i (drvP g gq xs r.2.2.2.2))) w' := by
  obtain ⟨F, hA, hb⟩ := h.at i hi
  rw [he] at hA
  exact (reap_v hA hq r hr).mono fun _ _ ⟨h1, h2⟩ => ⟨h1, hb _ _ h2⟩
theorem drvP_parts {F : Nat → Prop} (h : (drvP g gq xs q).P F w) : (∃ F1, (memA g xs).P F1 w) ∧ ∃ F2, (drvA gq g q).P F2 w := by
  obtain ⟨F1, F2, -, -, a, F3, F4, -, -, b, -⟩ := h
  exact ⟨⟨F1, a⟩, F3, b⟩
theorem St.free (h : St F0 w0 (stars l) w) (i : Nat) (hi : i < l.length) (he : l[i] = drvP g gq xs q) :
    Calls Tryz.prog 53 #[.pointer (some ⟨gq, 0, none⟩)] w fun e w' => e = .returned (.int .i64 (q.free : Int)) ∧ w = w' := by
  obtain ⟨F, hA⟩ := h.get i hi
  rw [he] at hA
  obtain ⟨-, F2, hD⟩ := drvP_parts hA
  exact dfree_v hD
theorem St.back (h : St F0 w0 (stars l) w) (i : Nat) (hi : i < l.length) (he : l[i] = drvP g gq xs q) :
    Calls Tryz.prog 57 #[.pointer (some ⟨gq, 0, none⟩)] w fun e w' => e = .returned (.agg #[.int .i64 (q.ba : Int), .bool q.bw]) ∧ Below w.heap.size w w' := by
  obtain ⟨F, hA⟩ := h.get i hi
  rw [he] at hA
  obtain ⟨-, F2, hD⟩ := drvP_parts hA
  exact dback_v hD
theorem St.held (h : St F0 w0 (stars l) w) (i : Nat) (hi : i < l.length) (he : l[i] = drvP g gq xs q) (hq : q.Ok xs.length) : Calls Tryz.prog 55 #[.pointer (some ⟨gq, 0, none⟩)] w (HeldP q.hs w) := by
  obtain ⟨F, hA⟩ := h.get i hi
  rw [he] at hA
  obtain ⟨-, F2, hD⟩ := drvP_parts hA
  exact dheld_v hD (by have := hq.hl; have := hq.s2; omega)
theorem St.image (h : St F0 w0 (stars l) w) (i : Nat) (hi : i < l.length) (he : l[i] = drvP g gq xs q) :
    Calls Tryz.prog 26 #[.pointer (some ⟨g, 0, none⟩)] w fun e w' => e = .returned (.string ⟨xs.toArray⟩) ∧ w = w' := by
  obtain ⟨F, hA⟩ := h.get i hi
  rw [he] at hA
  obtain ⟨⟨F1, hM⟩, -⟩ := drvP_parts hA
  exact memA_image hM
theorem St.write (h : St F0 w0 (stars l) w) (i : Nat) (hi : i < l.length) (he : l[i] = drvP g gq xs q) (a : Int) (s : ByteArray) (hs : s.size ≤ maxLen) :
    Calls Tryz.prog 10 #[.pointer (some ⟨g, 0, none⟩), .int .i64 a, .string s] w fun e w' => e = .returned (.int .i64 (wrE xs a s)) ∧ St F0 w0 (stars (l.set i (drvP g gq (wrX xs a s) q))) w' := by
  obtain ⟨F, hA, hb⟩ := h.at i hi
  rw [he] at hA
  obtain ⟨F1, hM, hb1⟩ := (St.start hA).at 0 (by simp)
  exact (memA_write hM a s hs).mono fun _ _ ⟨h1, h2⟩ => ⟨h1, hb _ _ (hb1 _ _ h2)⟩
theorem St.read (h : St F0 w0 (stars l) w) (i : Nat) (hi : i < l.length) (he : l[i] = drvP g gq xs q) (a n : Nat) (hn : a + n ≤ xs.length) :
    Calls Tryz.prog 58 #[.pointer (some ⟨g, 0, none⟩), .int .i64 (a : Int), .int .i64 (n : Int)] w fun e w' => e = .returned (.tuple #[.string ⟨((xs.drop a).take n).toArray⟩, .int .i64 0]) ∧ St F0 w0 (stars (l.set i (drvP g gq xs q))) w' := by
  obtain ⟨F, hA, hb⟩ := h.at i hi
  rw [he] at hA
  obtain ⟨F1, hM, hb1⟩ := (St.start hA).at 0 (by simp)
  exact (memA_read hM a n hn).mono fun _ _ ⟨h1, h2⟩ => ⟨h1, hb _ _ (hb1 _ _ h2)⟩
theorem St.newBad (h : St F0 w0 (stars l) w) (i : Nat) (hi : i < l.length) (he : l[i] = drvP g gq xs q) (ring size drv dev : Int) (k : layB xs ring size drv dev = false) :
    Calls Tryz.prog 24 #[.pointer (some ⟨g, 0, none⟩), .agg #[.int .i64 ring, .int .i64 size, .int .i64 drv, .int .i64 dev]] w fun e w' => e = .returned (.tuple #[.pointer none, .int .i64 140]) ∧ St F0 w0 (stars (l.set i (drvP g gq xs q))) w' := by
  obtain ⟨F, hA, hb⟩ := h.at i hi
  rw [he] at hA
  obtain ⟨F1, hM, hb1⟩ := (St.start hA).at 0 (by simp)
  exact (dnew_bad hM ring size drv dev k).mono fun _ _ ⟨h1, h2⟩ => ⟨h1, hb _ _ (hb1 _ _ h2)⟩
theorem St.clone (h : St F0 w0 (stars l) w) (i : Nat) (hi : i < l.length) (he : l[i] = drvP g gq xs q) : Calls Tryz.prog 17 #[.pointer (some ⟨g, 0, none⟩)] w (MadeM' xs w) := by
  obtain ⟨F, hA⟩ := h.get i hi
  rw [he] at hA
  obtain ⟨⟨F1, hM⟩, -⟩ := drvP_parts hA
  exact memA_clone hM
theorem St.cloneQ (h : St F0 w0 (stars l) w) (i : Nat) (hi : i < l.length) (he : l[i] = drvP g gq xs q) (g2 : Nat) : Calls Tryz.prog 18 #[.pointer (some ⟨gq, 0, none⟩), .pointer (some ⟨g2, 0, none⟩)] w (CloneD g2 q w) := by
  obtain ⟨F, hA⟩ := h.get i hi
  rw [he] at hA
  obtain ⟨-, F2, hD⟩ := drvP_parts hA
  exact dclone_v hD
end
end Go.Proofs.YtbpgblmhacpjlaaGreat
namespace Go.Proofs.YtbpgblmhacpjlaaGreat
open Go.RowKit

def fx0 : List UInt8 := List.replicate 256 0
def fq0 : Vs := newV 0 4 64 68
def fp : List IPt := [⟨128, 5, false⟩, ⟨140, 6, true⟩]
def fx1 : List UInt8 := putN fq0 (fp.map IPt.pt) 0 fx0 2
def fq1 : Vs := fq0.posted 2
def fx2 : List UInt8 := over fx1 8 ⟨#[7, 0, 0, 0, 0, 0, 128, 128]⟩
theorem stood_list : stood.data.toList = List.replicate 30 0 ++ [119, 104, 97, 116, 32, 115, 116, 111, 111, 100, 32, 116, 104, 101, 114, 101] := by
  unfold stood noughts
  simp [ByteArray.data_append]
theorem lay_fx : layX 256 0 4 64 68 = fx0 := by
  have e1 : bytesN 256 = 256 := by decide
  have h0 : xs0 256 = (List.replicate 30 0 ++ [119, 104, 97, 116, 32, 115, 116, 111, 111, 100, 32, 116, 104, 101, 114, 101]) ++ List.replicate 210 0 := by
    unfold xs0 over
    rw [stood_size, stood_list, List.take_zero, List.nil_append, List.drop_replicate]
  unfold layX newX
  rw [e1, h0]
  decide +kernel
theorem fq0_ok : fq0.Ok fx0.length := by constructor <;> decide +kernel
theorem fx_lay : layB (xs0 (bytesN 256)) 0 4 64 68 = true := by
  have e1 : bytesN 256 = 256 := by decide
  rw [e1]
  unfold layB fitsB mayB
  rw [xs0_length (by omega)]
  decide +kernel
theorem f_one : postC fx0 fq0 fp = (0, 0, fx1, fq1) := by
  have h1 : chainB fx0 fp = true := by decide +kernel
  have h2 : ¬ fq0.free < fp.length := by decide +kernel
  have h3 : leastId fq0.hs = 0 := by decide +kernel
  unfold postC
  rw [if_pos h1, if_neg h2, h3]; rfl
theorem fx1_length : fx1.length = 256 := by decide +kernel
theorem fq1_ok : fq1.Ok fx1.length := by rw [fx1_length]; constructor <;> decide +kernel
theorem f_free : (fq1.free : Int) = 2 := by decide +kernel
theorem f_two : postC fx1 fq1 (⟨128, 5, false⟩ :: fp) = (0, 151, fx1, fq1) := by
  have h1 : chainB fx1 (⟨128, 5, false⟩ :: fp) = true := by
    unfold chainB chainGo fp chainGo chainGo chainGo mayB
    rw [fx1_length]; decide +kernel
  have h2 : fq1.free < (⟨128, 5, false⟩ :: fp).length := by decide +kernel
  unfold postC
  rw [if_pos h1, if_pos h2]
theorem f_three : postC fx1 fq1 [] = (0, 150, fx1, fq1) := rfl
theorem f_four : postC fx1 fq1 [⟨140, 6, true⟩, ⟨128, 5, false⟩] = (0, 150, fx1, fq1) := by
  have h1 : ¬ chainB fx1 [⟨140, 6, true⟩, ⟨128, 5, false⟩] = true := by
    unfold chainB chainGo chainGo chainGo mayB
    rw [fx1_length]; decide +kernel
  unfold postC
  rw [if_neg h1]
theorem f_five : reapC fx1 fq1 = (0, 0, false, 0, fq1) := by
  have h1 : ¬ usedB (deAt fx1 (fq1.ring + 16 * fq1.ba)).f fq1.bw = true := by decide +kernel
  unfold reapC
  rw [if_neg h1]
theorem f_read : (⟨((fx1.drop 0).take 32).toArray⟩ : ByteArray) = ⟨#[128, 0, 0, 0, 0, 0, 0, 0, 5, 0, 0, 0, 0, 0, 129, 0, 140, 0, 0, 0, 0, 0, 0, 0, 6, 0, 0, 0, 0, 0, 130, 0]⟩ := by
  have : (fx1.drop 0).take 32 = [128, 0, 0, 0, 0, 0, 0, 0, 5, 0, 0, 0, 0, 0, 129, 0, 140, 0, 0, 0, 0, 0, 0, 0, 6, 0, 0, 0, 0, 0, 130, 0] := by decide +kernel
  rw [this]
theorem f_write : wrX fx1 8 ⟨#[7, 0, 0, 0, 0, 0, 128, 128]⟩ = fx2 := by
  unfold wrX fx2
  rw [if_pos (by rw [fx1_length]; decide)]; rfl
theorem fx2_length : fx2.length = 256 := by decide +kernel
theorem fq1_ok2 : fq1.Ok fx2.length := by rw [fx2_length]; have := fq1_ok; rwa [fx1_length] at this
theorem f_six : reapC fx2 fq1 = (0, 7, true, 0, fq1.reaped 0) := by
  have h1 : usedB (deAt fx2 (fq1.ring + 16 * fq1.ba)).f fq1.bw = true := by decide +kernel
  have h2 : (deAt fx2 (fq1.ring + 16 * fq1.ba)).id = 0 := by decide +kernel
  have h3 : (deAt fx2 (fq1.ring + 16 * fq1.ba)).n = 7 := by decide +kernel
  have h4 : 0 < fq1.hs.getD 0 0 := by decide +kernel
  unfold reapC
  rw [if_pos h1, h2, if_pos h4, h3]; rfl
theorem fq2_ok : (fq1.reaped 0).Ok fx2.length := by rw [fx2_length]; constructor <;> decide +kernel
theorem f_seven : layB fx2 0 0 0 0 = false := rfl
theorem f_eight : ((fq1.reaped 0).free : Int) = 4 ∧ (heldL (fq1.reaped 0).hs).length = 0 ∧ (fq1.reaped 0).ba = 2 ∧ (fq1.reaped 0).bw = true := by decide +kernel
end Go.Proofs.YtbpgblmhacpjlaaGreat
namespace Go.Proofs.YtbpgblmhacpjlaaGreat
open Go.RowKit

theorem laid_fx (w : World) : Calls Tryz.prog 4 #[.agg #[.int .i64 256, .int .i64 0, .int .i64 4, .int .i64 64, .int .i64 68, .slice none 0 0]] w fun e w' =>
    ∃ g gq gx, e = .returned (.tuple #[.pointer (some ⟨g, 0, none⟩), .pointer (some ⟨gq, 0, none⟩), .pointer (some ⟨gx, 0, none⟩), .bool true]) ∧ St (fun _ => False) w (stars [drvP g gq fx0 fq0]) w' := by
  have h := laid_v 256 0 4 64 68 none 0 0 w
  unfold LaidP at h
  rw [fx_lay, lay_fx] at h
  refine h.mono fun e w' hh => ?_
  rw [if_pos rfl] at hh
  obtain ⟨g, gq, gk, gx, he, hs⟩ := hh
  exact ⟨g, gq, gx, he, hs.weak fun F e => first_of e⟩
/-- two parts in a row, as a region reads them -/
def XF (w : World) (K : Nat) (W : World) : Prop :=
  (W.cell? ⟨K, 0, none⟩ = some (.int .i64 128) ∧ W.cell? ⟨K, 1, none⟩ = some (.int .i64 5) ∧ W.cell? ⟨K, 2, none⟩ = some (.bool false) ∧ W.cell? ⟨K, 3, none⟩ = some (.int .i64 140) ∧ W.cell? ⟨K, 4, none⟩ = some (.int .i64 6) ∧ W.cell? ⟨K, 5, none⟩ = some (.bool true)) ∧ ∃ l, St (fun _ => False) w (stars l) W
theorem XF.of {w W : World} {K : Nat} {l : List As} (h : St (fun _ => False) w (stars l) W) (i : Nat) (hi : i < l.length) (he : l[i] = rowA 56 3 (.slice (some ⟨K, 0, none⟩) 2 2) 2 (iptCells fp)) : XF w K W := by
  have hr := h.row i hi he
  have hc := fun j u hu => hr.cells (g := K) rfl j u hu
  have c0 := hc 0 _ rfl
  have c1 := hc 1 _ rfl
  have c2 := hc 2 _ rfl
  have c3 := hc 3 _ rfl
  have c4 := hc 4 _ rfl
  have c5 := hc 5 _ rfl
  rw [addr_zero] at c0 c1 c2 c3 c4 c5
  exact ⟨⟨c0, c1, c2, c3, c4, c5⟩, l, h⟩
theorem Tryz.infoPart : (Tryz.prog.info? 56).map (fun i => (i.zero, i.size, i.bytes)) = some (some (.agg #[.int .i64 0, .int .i64 0, .bool false]), 3, 24) := by kernel_rfl
set_option maxRecDepth 100000 in
set_option maxHeartbeats 6400000 in
theorem fixed_any (w : World) : Calls Tryz.prog 21 #[] w fun e w' => e = .returned (.bool true) ∧ Below w.heap.size w w' := by
  obtain ⟨i0, hi, hz0, hz1, hz2⟩ := info_parts Tryz.infoPart
  have HI := Lib.hid hi
  have HZ0 := Lib.hid hz0
  have HZ1 := Lib.hid hz1
  have HZ2 := Lib.hid hz2
  clear hi hz0 hz1 hz2
  have HL := Lib.hid laid_fx
  have hb1 := ba (Below.refl w.heap.size w) (.cells #[.int .i64 0, .int .i64 4, .int .i64 64, .int .i64 68] 23)
  have HB := Lib.hid hb1
  clear hb1
  go_enter Tryz.func21, Tryz.ntmps21
  go_wp2_with fail
  refine (HL.out _).mono ?_
  rintro e w1 ⟨g, gq, gx, rfl, hs⟩
  have S1 := St.trans0 HB.out hs
  have P1 := Lib.hid (S1.pushRow 56 3 2 (iptCells fp) rfl (by decide) (by decide))
  have HP : Hid (PsAt (some ⟨w1.heap.size, 0, none⟩) fp (w1.alloc (.cells (iptCells fp).toArray 56))) := Lib.hid (PsAt.of_own (cap := 2) (P1.out.row 0 (by simp) rfl))
  have H2 := Lib.hid (P1.out.post 1 (by simp) rfl fq0_ok (by decide) (cap := 2) HP.out (off_row (m := 0) (by simp) rfl (own_addr (P1.out.row 0 (by simp) rfl))) (by decide) (by decide) _ f_one)
  clear hs S1
  go_wp2_with fail
  refine H2.out.mono ?_
  rintro e w2 ⟨rfl, S2⟩
  have S2 : St (fun _ => False) w (stars [rowA 56 3 (.slice (some ⟨w1.heap.size, 0, none⟩) 2 2) 2 (iptCells fp), drvP g gq fx1 fq1]) w2 := S2
  have H3 := S2.free 1 (by simp) rfl
  rw [f_free] at H3
  have S2 := Lib.hid S2
  have H3 := Lib.hid H3
  clear P1 HP H2
  go_wp2_with fail
  refine H3.out.mono ?_
  rintro e wx ⟨rfl, rfl⟩
  have P3 := Lib.hid (S2.out.pushRow 56 3 1 (iptCells [⟨128, 5, false⟩]) rfl (by decide) (by decide))
  have r0 := Lib.hid (P3.out.row 0 (by simp) rfl)
  have r1 := Lib.hid (P3.out.row 1 (by simp) rfl)
  clear H3
  go_wp2_with (at_builtin; refine wpList_append_lies _ rfl (.tmp 57) (.tmp 58) 32 rfl 0 56 i0 _ 3 24 Tryz.underlying32 HI.out HZ0.out HZ1.out HZ2.out rfl (by decide) (.slice (some ⟨w2.heap.size, 0, none⟩) 1 1) 1 (iptCells [⟨128, 5, false⟩]) rfl r0.out ⟨w1.heap.size, 0, none⟩ 2 2 (iptCells fp) rfl rfl (r1.out.cells (g := w1.heap.size) rfl) (ipt_one _) (by decide) (by unfold maxLen; omega) (by omega) (Nat.zero_le _) _ rfl ?_; intro g3 cap3 w3 hown hgrow hat hlt3)
  have S3 : St (fun _ => False) w (stars [rowA 56 3 (.slice (some ⟨g3, 0, none⟩) (1 + 2) cap3) (1 + 2) (iptCells [⟨128, 5, false⟩] ++ iptCells fp), rowA 56 3 (.slice (some ⟨w1.heap.size, 0, none⟩) 2 2) 2 (iptCells fp), drvP g gq fx1 fq1]) w3 := P3.out.grow 0 (by simp) rfl hown hgrow (fun k hk => by
    have e : g3 = k := by simpa [Value.ownBlock] using hk
    subst e
    rcases hat with e | e
    · exact .inl e
    · right; rw [e]; exact Nat.le_refl _)
  have HP3 : PsAt (some ⟨g3, 0, none⟩) (⟨128, 5, false⟩ :: fp) w3 := PsAt.of_own (cap := cap3) hown
  have H4 := Lib.hid (S3.post 2 (by simp) rfl fq1_ok (by decide) (cap := cap3) HP3 (off_row (m := 0) (by simp) rfl (own_addr (S3.row 0 (by simp) rfl))) (by decide) (by decide) _ f_two)
  clear hown hgrow hat hlt3 HP3 S3 r0 r1 P3 S2
  go_wp2_with fail
  refine H4.out.mono ?_
  rintro e w4 ⟨rfl, S4⟩
  have S4 : St (fun _ => False) w (stars [rowA 56 3 (.slice (some ⟨w1.heap.size, 0, none⟩) 2 2) 2 (iptCells fp), drvP g gq fx1 fq1]) w4 := St.pop S4
  have H5 := Lib.hid (S4.post 1 (by simp) rfl fq1_ok (by decide) (A := none) (cap := 0) (ps := []) (fun j hj => by simp at hj) off_none (by decide) (by decide) _ f_three)
  clear H4
  go_wp2_with fail
  refine H5.out.mono ?_
  rintro e w5 ⟨rfl, S5⟩
  have S5 : St (fun _ => False) w (stars [rowA 56 3 (.slice (some ⟨w1.heap.size, 0, none⟩) 2 2) 2 (iptCells fp), drvP g gq fx1 fq1]) w5 := S5
  clear S4 H5
  go_wp2_with fail
  have X5 := Lib.hid (XF.of S5.drew 0 (by simp) rfl)
  have P6 : St (fun _ => False) w (stars [rowA 56 3 (.slice (some ⟨w5.heap.size, 0, none⟩) 2 2) 2 (iptCells [⟨140, 6, true⟩, ⟨128, 5, false⟩]), rowA 56 3 (.slice (some ⟨w1.heap.size, 0, none⟩) 2 2) 2 (iptCells fp), drvP g gq fx1 fq1]) (w5.alloc (.cells (iptCells [⟨140, 6, true⟩, ⟨128, 5, false⟩]).toArray 56)).drew := (S5.pushRow 56 3 2 (iptCells [⟨140, 6, true⟩, ⟨128, 5, false⟩]) rfl (by decide) (by decide)).drew
  have HP6 : PsAt (some ⟨w5.heap.size, 0, none⟩) [⟨140, 6, true⟩, ⟨128, 5, false⟩] (w5.alloc (.cells (iptCells [⟨140, 6, true⟩, ⟨128, 5, false⟩]).toArray 56)).drew := PsAt.of_own (cap := 2) (P6.row 0 (by simp) rfl)
  have H6 : Calls Tryz.prog 5 #[.pointer (some ⟨gq, 0, none⟩), .slice (some ⟨w5.heap.size, 0, none⟩) 2 2] (w5.alloc (.cells #[.int .i64 140, .int .i64 6, .bool true, .int .i64 128, .int .i64 5, .bool false] 56)).drew fun e w' => e = .returned (.tuple #[.int .i64 0, .int .i64 150]) ∧ St (fun _ => False) w (stars [rowA 56 3 (.slice (some ⟨w5.heap.size, 0, none⟩) 2 2) 2 (iptCells [⟨140, 6, true⟩, ⟨128, 5, false⟩]), rowA 56 3 (.slice (some ⟨w1.heap.size, 0, none⟩) 2 2) 2 (iptCells fp), drvP g gq fx1 fq1]) w' := (P6.post 2 (by simp) rfl fq1_ok (by decide) (cap := 2) HP6 (off_row (m := 0) (by simp) rfl (own_addr (P6.row 0 (by simp) rfl))) (by decide) (by decide) _ f_four)
  have H6 := Lib.hid H6
  have Y6 : XF w w1.heap.size (w5.alloc (.cells #[.int .i64 140, .int .i64 6, .bool true, .int .i64 128, .int .i64 5, .bool false] 56)).drew := XF.of P6 1 (by simp) rfl
  have Y6 := Lib.hid Y6
  clear HP6
  go_region_held3 (fun W => (W.cell? ⟨w1.heap.size, 0, none⟩ = some (.int .i64 128) ∧ W.cell? ⟨w1.heap.size, 1, none⟩ = some (.int .i64 5) ∧ W.cell? ⟨w1.heap.size, 2, none⟩ = some (.bool false) ∧ W.cell? ⟨w1.heap.size, 3, none⟩ = some (.int .i64 140) ∧ W.cell? ⟨w1.heap.size, 4, none⟩ = some (.int .i64 6) ∧ W.cell? ⟨w1.heap.size, 5, none⟩ = some (.bool true)) ∧ ∃ l, St (fun _ => False) w (stars l) W)
    ((refine (id (α := XF w w1.heap.size _) ?_); with_reducible (first | exact X5.out | exact Y6.out | exact Z6)))
    ((go_at_call 5; ((with_reducible refine H6.out.mono ?_); rintro e w6 ⟨rfl, S6⟩; have Z6 := XF.of S6 1 (by simp) rfl)))
  have S6 : St (fun _ => False) w (stars [drvP g gq fx1 fq1]) w6 := St.pop (St.pop S6)
  have H7 := Lib.hid (S6.reap 0 (by simp) rfl fq1_ok _ f_five)
  clear X5 P6 H6 Y6 Z6 S5
  go_wp2_with fail
  refine H7.out.mono ?_
  rintro e w7 ⟨rfl, S7⟩
  have S7 : St (fun _ => False) w (stars [drvP g gq fx1 fq1]) w7 := S7
  have H8 := S7.read 0 (by simp) rfl 0 32 (by rw [fx1_length]; omega)
  rw [f_read] at H8
  have H8 : Calls Tryz.prog 58 #[.pointer (some ⟨g, 0, none⟩), .int .i64 0, .int .i64 32] w7 _ := H8
  have H8 := Lib.hid H8
  clear H7 S6 S7
  go_wp2_with fail
  refine H8.out.mono ?_
  rintro e w8 ⟨rfl, S8⟩
  have S8 : St (fun _ => False) w (stars [drvP g gq fx1 fq1]) w8 := S8
  have H9 := S8.write 0 (by simp) rfl 8 ⟨#[7, 0, 0, 0, 0, 0, 128, 128]⟩ (by decide)
  rw [f_write] at H9
  have H9 := Lib.hid H9
  clear H8 S8
  go_wp2_with fail
  refine H9.out.mono ?_
  rintro e w9 ⟨rfl, S9⟩
  have S9 : St (fun _ => False) w (stars [drvP g gq fx2 fq1]) w9 := S9
  have H10 := Lib.hid (S9.reap 0 (by simp) rfl fq1_ok2 _ f_six)
  clear H9 S9
  go_wp2_with fail
  refine H10.out.mono ?_
  rintro e w10 ⟨rfl, S10⟩
  have S10 : St (fun _ => False) w (stars [drvP g gq fx2 (fq1.reaped 0)]) w10 := S10
  have H11 := Lib.hid (S10.newBad 0 (by simp) rfl 0 0 0 0 f_seven)
  clear H10 S10
  go_wp2_with fail
  refine H11.out.mono ?_
  rintro e w11 ⟨rfl, S11⟩
  have S11 : St (fun _ => False) w (stars [drvP g gq fx2 (fq1.reaped 0)]) w11 := S11
  have H12 := S11.free 0 (by simp) rfl
  rw [f_eight.1] at H12
  have H12 := Lib.hid H12
  have H13 := S11.held 0 (by simp) rfl fq2_ok
  have H13 := Lib.hid H13
  have S11 := Lib.hid S11
  clear H11
  go_wp2_with fail
  refine H12.out.mono ?_
  rintro e wx ⟨rfl, rfl⟩
  unfold HeldP at H13
  rw [f_eight.2.1] at H13
  go_wp2_with fail
  refine H13.out.mono ?_
  rintro e w12 ⟨A, cap, rfl, -, hb⟩
  have S12 := S11.out.below hb
  have H14 := S12.back 0 (by simp) rfl
  rw [f_eight.2.2.1, f_eight.2.2.2] at H14
  have H14 := Lib.hid H14
  have S12 := Lib.hid S12
  clear H12 H13 S11 hb
  go_wp2_with fail
  refine H14.out.mono ?_
  rintro e w13 ⟨rfl, hb⟩
  have HE := Lib.hid (S12.out.below hb).law
  clear H14 S12 hb
  go_wp2_with fail
  go_ret
  exact ⟨rfl, HE.out⟩
end Go.Proofs.YtbpgblmhacpjlaaGreat
namespace Go.Proofs.YtbpgblmhacpjlaaGreat
open Go.RowKit

theorem low_and (n : Int) (j : Nat) (m : Int) (hj : j ≤ 32) (hm : (BitVec.ofInt 64 m).toNat = 2 ^ j - 1) : ∃ X : Nat, X < 2 ^ j ∧ bits .and .i64 n m = (X : Int) := by
  have h : bits .and .i64 n m = IntKind.i64.wrap (((BitVec.ofInt 64 n).toNat % 2 ^ j : Nat) : Int) := by
    show IntKind.i64.wrap (((BitVec.ofInt 64 n &&& BitVec.ofInt 64 m).toNat : Nat) : Int) = _
    rw [BitVec.toNat_and, hm, Nat.and_two_pow_sub_one_eq_mod]
  have hb : (BitVec.ofInt 64 n).toNat % 2 ^ j < 2 ^ j := Nat.mod_lt _ (Nat.two_pow_pos j)
  have hp : 2 ^ j ≤ 2 ^ 32 := Nat.pow_le_pow_right (by omega) hj
  rw [IntWalk.i64_in _ (by omega)] at h
  exact ⟨_, hb, h⟩
theorem and16 (n : Int) : ∃ X : Nat, X < 65536 ∧ bits .and .i64 n 65535 = (X : Int) := low_and n 16 65535 (by decide) (by decide)
def IntsAt (A : Option Addr) (n : Nat) (w : World) : Prop := 0 < n → ∃ b off, A = some ⟨b, off, none⟩ ∧ b < w.heap.size ∧ ∀ i, i < n → ∃ z : Int, w.cell? ⟨b, off + i, none⟩ = some (.int .i64 z)
theorem IntsAt.cell {A : Option Addr} {n : Nat} {w w' : World} (h : IntsAt A n w) (hb : Below w.heap.size w w') (i : Nat) (hi : i < n) : ∃ b off, ∃ z : Int, A = some ⟨b, off, none⟩ ∧ b < w.heap.size ∧ w'.cell? ⟨b, off + i, none⟩ = some (.int .i64 z) := by
  obtain ⟨b, off, hA, hlt, hc⟩ := h (by omega)
  obtain ⟨z, hz⟩ := hc i hi
  exact ⟨b, off, z, hA, hlt, (hb.cell (p := ⟨b, off + i, none⟩) hlt).trans hz⟩
end Go.Proofs.YtbpgblmhacpjlaaGreat
