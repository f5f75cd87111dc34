/-
  The laws' own fixed is true.
-/
import Derived.Test.YtboinnejkghfiaaVr
import Derived.BigQuiet
namespace Go.Proofs.Ytboinnejkghfiaa
open Go.RowKit

theorem region_class {P : Program} {id : Nat} {Q : Exit → Act → World → Prop} {a : Act} {w : World} {l : List Oper} (C : World → Prop) (hm : P.follows .mixedOrders = true) (hB : Region.lexB .any l.toArray = true) (hC : C w.drew)
    (h : wpQuiet P l.toArray C (fun a' => ∀ w', C w' → Q .normal a' w') l a) : (Code.region id l.toArray true).wp P Q a w :=
  wp_region_quiet (C := C) hm hB hC (by simpa using h)
def fxF : Fl := ⟨⟨#[2, 97, 113, 0, 0, 5]⟩, false, false, false, false, false, false, none, [], 0, none, [], 0, false, none, [], 0⟩
def fxO : Fl := ⟨⟨#[2, 97, 113, 0, 0, 5]⟩, false, false, false, false, false, false, none, [], 0, none, [], 0, true, none, [], 0⟩
def fxG (U M V : Option Addr) (uc mc vc : Nat) (vo : Bool) : Fl := ⟨⟨#[2, 97, 113, 0, 0, 5]⟩, false, false, false, false, false, false, U, [], uc, M, [], mc, vo, V, [7], vc⟩
theorem nil_at {F : Fl} (h1 : F.us = []) (h2 : F.ms = []) (h3 : F.vs = []) (B : Nat) (w : World) : F.At B w := ⟨by rw [h1]; exact Rd.nil, by rw [h2]; exact Rd.nil, by rw [h3]; exact Rd.nil⟩
theorem nil_few {F : Fl} (h1 : F.us = []) (h2 : F.ms = []) (h3 : F.vs = []) : F.Few := ⟨by rw [h1]; exact Nat.zero_le _, by rw [h2]; exact Nat.zero_le _, by rw [h3]; exact Nat.zero_le _⟩
theorem nil_off {F : Fl} (h1 : F.us = []) (h2 : F.ms = []) (h3 : F.vs = []) (g : Nat) : F.Off g := ⟨fun b off h _ => by rw [h1] at h; exact absurd h (by simp), fun b off h _ => by rw [h2] at h; exact absurd h (by simp), fun b off h _ => by rw [h3] at h; exact absurd h (by simp)⟩
theorem fx_add : addL [] 7 = [7] := by decide +kernel
theorem fx_c1 : chkV fxF = 0 := by decide +kernel
theorem fx_c2 : chkV Fl.zero = 160 := by decide +kernel
theorem fx_d1 : adB fxF ⟨#[2, 97, 113, 0, 0, 5, 2, 97, 113, 0, 0, 6, 8, 0]⟩ = true := by decide +kernel
theorem fx_d2 : adB fxF ⟨#[2, 97, 113, 0, 0, 6, 2, 97, 113, 0, 0, 5, 8, 0]⟩ = false := by decide +kernel
theorem fx_d3 : adB fxF ⟨#[255, 255, 255, 255, 255, 255, 2, 97, 113, 0, 0, 6, 8, 0]⟩ = true := by decide +kernel
theorem fx_d4 : adB fxF ⟨#[2, 97, 113, 0, 0, 5, 2, 97, 113, 0, 0, 6, 129, 0, 0, 7, 8, 0]⟩ = true := by decide +kernel
theorem fx_d5 : adB fxO ⟨#[2, 97, 113, 0, 0, 5, 2, 97, 113, 0, 0, 6, 129, 0, 0, 7, 8, 0]⟩ = false := by decide +kernel
theorem fx_d6 {U M V : Option Addr} {uc mc vc : Nat} : adB (fxG U M V uc mc vc true) ⟨#[2, 97, 113, 0, 0, 5, 2, 97, 113, 0, 0, 6, 129, 0, 0, 7, 8, 0]⟩ = true := by
  have e : adB (fxG U M V uc mc vc true) ⟨#[2, 97, 113, 0, 0, 5, 2, 97, 113, 0, 0, 6, 129, 0, 0, 7, 8, 0]⟩ = adB (fxG none none none 0 0 0 true) ⟨#[2, 97, 113, 0, 0, 5, 2, 97, 113, 0, 0, 6, 129, 0, 0, 7, 8, 0]⟩ := rfl
  rw [e]
  decide +kernel
theorem fx_d7 : adB fxF ⟨#[115, 104, 111, 114, 116]⟩ = false := by decide +kernel
theorem fx_f1 : fram ⟨#[2, 97, 113, 0, 0, 5]⟩ ⟨#[2, 97, 113, 0, 0, 6]⟩ = ⟨#[2, 97, 113, 0, 0, 5, 2, 97, 113, 0, 0, 6, 8, 0]⟩ := by decide +kernel
theorem fx_f2 : fram ⟨#[2, 97, 113, 0, 0, 6]⟩ ⟨#[2, 97, 113, 0, 0, 5]⟩ = ⟨#[2, 97, 113, 0, 0, 6, 2, 97, 113, 0, 0, 5, 8, 0]⟩ := by decide +kernel
theorem fx_f3 : fram ⟨#[255, 255, 255, 255, 255, 255]⟩ ⟨#[2, 97, 113, 0, 0, 6]⟩ = ⟨#[255, 255, 255, 255, 255, 255, 2, 97, 113, 0, 0, 6, 8, 0]⟩ := by decide +kernel
theorem fx_t : ((⟨#[2, 97, 113, 0, 0, 5]⟩ : ByteArray) ++ ⟨#[2, 97, 113, 0, 0, 6]⟩) ++ (⟨#[129, 0, 0, 7, 8, 0]⟩ : ByteArray) = ⟨#[2, 97, 113, 0, 0, 5, 2, 97, 113, 0, 0, 6, 129, 0, 0, 7, 8, 0]⟩ := by decide +kernel
set_option maxRecDepth 100000 in
set_option maxHeartbeats 4000000 in
theorem fixed_any (w : World) : Calls Try.prog 10 #[] w fun e w' => e = .returned (.bool true) ∧ Below w.heap.size w w' := by
  have A1 : ∀ W : World, Calls Try.prog 20 #[.string ⟨#[2, 97, 113, 0, 0, 5]⟩, .string ⟨#[2, 97, 113, 0, 0, 6]⟩] W fun e w' => e = .returned (.string ⟨#[2, 97, 113, 0, 0, 5, 2, 97, 113, 0, 0, 6, 8, 0]⟩) ∧ W = w' := fun W => by
    have := framed_any ⟨#[2, 97, 113, 0, 0, 5]⟩ ⟨#[2, 97, 113, 0, 0, 6]⟩ W (by decide)
    rw [fx_f1] at this
    exact this
  have A2 : ∀ W : World, Calls Try.prog 20 #[.string ⟨#[2, 97, 113, 0, 0, 6]⟩, .string ⟨#[2, 97, 113, 0, 0, 5]⟩] W fun e w' => e = .returned (.string ⟨#[2, 97, 113, 0, 0, 6, 2, 97, 113, 0, 0, 5, 8, 0]⟩) ∧ W = w' := fun W => by
    have := framed_any ⟨#[2, 97, 113, 0, 0, 6]⟩ ⟨#[2, 97, 113, 0, 0, 5]⟩ W (by decide)
    rw [fx_f2] at this
    exact this
  have A3 : ∀ W : World, Calls Try.prog 20 #[.string ⟨#[255, 255, 255, 255, 255, 255]⟩, .string ⟨#[2, 97, 113, 0, 0, 6]⟩] W fun e w' => e = .returned (.string ⟨#[255, 255, 255, 255, 255, 255, 2, 97, 113, 0, 0, 6, 8, 0]⟩) ∧ W = w' := fun W => by
    have := framed_any ⟨#[255, 255, 255, 255, 255, 255]⟩ ⟨#[2, 97, 113, 0, 0, 6]⟩ W (by decide)
    rw [fx_f3] at this
    exact this
  have A4 : ∀ W : World, Calls Try.prog 15 #[.agg #[.string ⟨#[2, 97, 113, 0, 0, 5]⟩, .bool false, .bool false, .bool false, .bool false, .bool false, .bool false, .slice none 0 0, .slice none 0 0, .bool false, .slice none 0 0], .int .i64 7] W (SetP fxF [7] W) := fun W => by
    have := add_any fxF 7 0 W (nil_at rfl rfl rfl _ _) (Nat.zero_le _) (nil_few rfl rfl rfl) rfl rfl
    rw [show fxF.vs = [] from rfl, fx_add] at this
    exact this
  have A5 : ∀ W : World, Calls Try.prog 15 #[.agg #[.string ⟨#[2, 97, 113, 0, 0, 5]⟩, .bool false, .bool false, .bool false, .bool false, .bool false, .bool false, .slice none 0 0, .slice none 0 0, .bool false, .slice none 0 0], .int .i64 4095] W fun e w' => e = .returned (.tuple #[.agg #[.string ⟨#[]⟩, .bool false, .bool false, .bool false, .bool false, .bool false, .bool false, .slice none 0 0, .slice none 0 0, .bool false, .slice none 0 0], .int .i64 1]) ∧ Below W.heap.size W w' := fun W => by
    exact add_bad fxF 4095 0 W (nil_at rfl rfl rfl _ _) (Nat.zero_le _) (nil_few rfl rfl rfl) (.inl rfl)
  have R1 := Lib.hid A1
  have R2 := Lib.hid A2
  have R3 := Lib.hid A3
  have H4 := Lib.hid A4
  have H5 := Lib.hid A5
  have HT := fx_t
  clear A1 A2 A3 A4 A5
  have hv0 : Vs w [(w.heap.size, fxF)] (w.alloc (.cells #[.string ⟨#[2, 97, 113, 0, 0, 5]⟩, .bool false, .bool false, .bool false, .bool false, .bool false, .bool false, .slice none 0 0, .slice none 0 0, .bool false, .slice none 0 0] 25)) := by
    have h0 : Vs w [] w := ⟨b0 w, by simp, by simp⟩
    exact h0.new (nil_at rfl rfl rfl _ _) (nil_few rfl rfl rfl) (by simp)
  have HV0 := Lib.hid hv0
  clear hv0
  go_enter Try.func10, Try.ntmps10
  go_wp2_with (go_at_call 20; ((with_reducible refine (R1.out _).mono ?_); rintro e w' ⟨rfl, rfl⟩))
  refine (H4.out _).mono ?_
  rintro e w1 ⟨G, hS, rfl, hO, hq⟩
  obtain ⟨mac', pr', au', am', nu', nm', na', U, us', uc, M, ms', mc, vo', V, vs', vc⟩ := G
  obtain ⟨e0, e1, e2, e3, e4, e5, e6, e7, e8, e9, e10⟩ := hS
  simp only [fxF] at e0 e1 e2 e3 e4 e5 e6 e7 e8 e9 e10
  subst e0 e1 e2 e3 e4 e5 e6 e7 e8 e9 e10
  have hv1 := HV0.out.next hq
  have hv2 : Vs w [(w1.heap.size, fxG U M V uc mc vc false), (w.heap.size, fxF)] (w1.alloc (.cells #[.string ⟨#[2, 97, 113, 0, 0, 5]⟩, .bool false, .bool false, .bool false, .bool false, .bool false, .bool false, .slice U 0 uc, .slice M 0 mc, .bool false, .slice V 1 vc] 25)) :=
    hv1.new (F := fxG U M V uc mc vc false) (hO.at (Nat.le_refl _)) ⟨Nat.zero_le _, Nat.zero_le _, show 1 ≤ 100 by omega⟩ (fun q hm => by
      have : q = (w.heap.size, fxF) := by simpa using hm
      subst this
      exact hO.off (by simp))
  clear hq hO HV0
  have k1 : Blk w1 w.heap.size 25 #[.string ⟨#[2, 97, 113, 0, 0, 5]⟩, .bool false, .bool false, .bool false, .bool false, .bool false, .bool false, .slice none 0 0, .slice none 0 0, .bool false, .slice none 0 0] := hv1.get (show (w.heap.size, fxF) ∈ _ by simp)
  have c0 := k1.cell 0
  have c1 := k1.cell 1
  have c2 := k1.cell 2
  have c3 := k1.cell 3
  have c4 := k1.cell 4
  have c5 := k1.cell 5
  have c6 := k1.cell 6
  have c7 := k1.cell 7
  have c8 := k1.cell 8
  have c9 := k1.cell 9
  have c10 := k1.cell 10
  simp only [List.getElem?_toArray, List.getElem?_cons_zero, List.getElem?_cons_succ] at c0 c1 c2 c3 c4 c5 c6 c7 c8 c9 c10
  have hlt1 := hv1.lt (show (w.heap.size, fxF) ∈ _ by simp)
  clear hv1 k1
  have HV2 := Lib.hid hv2
  clear hv2
  go_wp2_with fail
  refine (H5.out _).mono ?_
  rintro e w2 ⟨rfl, hq⟩
  have hvA := HV2.out.next hq
  have hs2 := hq.size
  have k2 : Blk w2 w.heap.size 25 #[.string ⟨#[2, 97, 113, 0, 0, 5]⟩, .bool false, .bool false, .bool false, .bool false, .bool false, .bool false, .slice none 0 0, .slice none 0 0, .bool false, .slice none 0 0] := (HV2.out.next hq).get (show (w.heap.size, fxF) ∈ _ by simp)
  have g2 : Blk w2 w1.heap.size 25 #[.string ⟨#[2, 97, 113, 0, 0, 5]⟩, .bool false, .bool false, .bool false, .bool false, .bool false, .bool false, .slice U 0 uc, .slice M 0 mc, .bool false, .slice V 1 vc] := (HV2.out.next hq).get (show (w1.heap.size, fxG U M V uc mc vc false) ∈ _ by simp)
  have hz2 := k2.lt
  have hz3 := g2.lt
  clear hq HV2
  simp at hs2
  clear c0 c1 c2 c3 c4 c5 c6 c7 c8 c9 c10
  have c0 := k2.cell 0
  have c1 := k2.cell 1
  have c2 := k2.cell 2
  have c3 := k2.cell 3
  have c4 := k2.cell 4
  have c5 := k2.cell 5
  have c6 := k2.cell 6
  have c7 := k2.cell 7
  have c8 := k2.cell 8
  have c9 := k2.cell 9
  have c10 := k2.cell 10
  simp only [List.getElem?_toArray, List.getElem?_cons_zero, List.getElem?_cons_succ] at c0 c1 c2 c3 c4 c5 c6 c7 c8 c9 c10
  have d0 := g2.cell 0
  have d1 := g2.cell 1
  have d2 := g2.cell 2
  have d3 := g2.cell 3
  have d4 := g2.cell 4
  have d5 := g2.cell 5
  have d6 := g2.cell 6
  have d7 := g2.cell 7
  have d8 := g2.cell 8
  have d9 := g2.cell 9
  have d10 := g2.cell 10
  simp only [List.getElem?_toArray, List.getElem?_cons_zero, List.getElem?_cons_succ] at d0 d1 d2 d3 d4 d5 d6 d7 d8 d9 d10
  have f0 := g2.frozen 0
  have f1 := g2.frozen 1
  have f2 := g2.frozen 2
  have f3 := g2.frozen 3
  have f4 := g2.frozen 4
  have f5 := g2.frozen 5
  have f6 := g2.frozen 6
  have f7 := g2.frozen 7
  have f8 := g2.frozen 8
  have f9 := g2.frozen 9
  have f10 := g2.frozen 10
  have hne1 : w1.heap.size ≠ w2.heap.size := by omega
  have hne2 : w1.heap.size ≠ w2.heap.size + 1 := by omega
  have hne3 : w1.heap.size ≠ w.heap.size := by omega
  have hvB : Vs w [(w1.heap.size, fxG U M V uc mc vc true), (w.heap.size, fxF)] (w2.setCell ⟨w1.heap.size, 9, none⟩ (.bool true)) := by
    refine hvA.put (g := w1.heap.size) (i := 9) (u := .bool true) (F := fxG U M V uc mc vc false) (G := fxG U M V uc mc vc true) (by simp) rfl ⟨rfl, rfl, rfl, rfl, rfl, rfl⟩ (fun p hp => ?_)
    simp only [List.mem_cons, List.not_mem_nil, or_false] at hp
    rcases hp with rfl | rfl
    · exact .inl rfl
    · exact .inr ⟨by simp, hne3.symm⟩
  have hv5 : Vs w [(w2.heap.size + 1, fxO), (w1.heap.size, fxG U M V uc mc vc true), (w.heap.size, fxF)] (((w2.setCell ⟨w1.heap.size, 9, none⟩ (.bool true)).alloc (.cells #[.string ⟨#[]⟩, .bool false, .bool false, .bool false, .bool false, .bool false, .bool false, .slice none 0 0, .slice none 0 0, .bool false, .slice none 0 0] 25)).alloc (.cells #[.string ⟨#[2, 97, 113, 0, 0, 5]⟩, .bool false, .bool false, .bool false, .bool false, .bool false, .bool false, .slice none 0 0, .slice none 0 0, .bool true, .slice none 0 0] 25)) := by
    have := (hvB.alloc (.cells #[.string ⟨#[]⟩, .bool false, .bool false, .bool false, .bool false, .bool false, .bool false, .slice none 0 0, .slice none 0 0, .bool false, .slice none 0 0] 25)).new (F := fxO) (nil_at rfl rfl rfl _ _) (nil_few rfl rfl rfl) (fun q _ => nil_off rfl rfl rfl _)
    have e : ((w2.setCell ⟨w1.heap.size, 9, none⟩ (.bool true)).alloc (.cells #[.string ⟨#[]⟩, .bool false, .bool false, .bool false, .bool false, .bool false, .bool false, .slice none 0 0, .slice none 0 0, .bool false, .slice none 0 0] 25)).heap.size = w2.heap.size + 1 := by simp [World.setCell]
    rw [e] at this
    exact this
  have HV := Lib.hid hv5
  clear hvA hvB hv5
  go_wp2_with fail
  have hv := HV.out
  have D1 : ∀ W, Vs w [(w2.heap.size + 1, fxO), (w1.heap.size, fxG U M V uc mc vc true), (w.heap.size, fxF)] W → Calls Try.prog 13 #[.agg #[.string ⟨#[2, 97, 113, 0, 0, 5]⟩, .bool false, .bool false, .bool false, .bool false, .bool false, .bool false, .slice none 0 0, .slice none 0 0, .bool false, .slice none 0 0], .string ⟨#[2, 97, 113, 0, 0, 5, 2, 97, 113, 0, 0, 6, 8, 0]⟩] W fun e w' => e = .returned (.bool true) ∧ Below W.heap.size W w' := fun W h => by
    have := adm_any (fxF) ⟨#[2, 97, 113, 0, 0, 5, 2, 97, 113, 0, 0, 6, 8, 0]⟩ W.heap.size W (h.at (show (w.heap.size, fxF) ∈ _ by simp)) (Nat.le_refl _) (h.few (show (w.heap.size, fxF) ∈ _ by simp))
    rw [fx_d1] at this
    exact this
  have D2 : ∀ W, Vs w [(w2.heap.size + 1, fxO), (w1.heap.size, fxG U M V uc mc vc true), (w.heap.size, fxF)] W → Calls Try.prog 13 #[.agg #[.string ⟨#[2, 97, 113, 0, 0, 5]⟩, .bool false, .bool false, .bool false, .bool false, .bool false, .bool false, .slice none 0 0, .slice none 0 0, .bool false, .slice none 0 0], .string ⟨#[2, 97, 113, 0, 0, 6, 2, 97, 113, 0, 0, 5, 8, 0]⟩] W fun e w' => e = .returned (.bool false) ∧ Below W.heap.size W w' := fun W h => by
    have := adm_any (fxF) ⟨#[2, 97, 113, 0, 0, 6, 2, 97, 113, 0, 0, 5, 8, 0]⟩ W.heap.size W (h.at (show (w.heap.size, fxF) ∈ _ by simp)) (Nat.le_refl _) (h.few (show (w.heap.size, fxF) ∈ _ by simp))
    rw [fx_d2] at this
    exact this
  have D3 : ∀ W, Vs w [(w2.heap.size + 1, fxO), (w1.heap.size, fxG U M V uc mc vc true), (w.heap.size, fxF)] W → Calls Try.prog 13 #[.agg #[.string ⟨#[2, 97, 113, 0, 0, 5]⟩, .bool false, .bool false, .bool false, .bool false, .bool false, .bool false, .slice none 0 0, .slice none 0 0, .bool false, .slice none 0 0], .string ⟨#[255, 255, 255, 255, 255, 255, 2, 97, 113, 0, 0, 6, 8, 0]⟩] W fun e w' => e = .returned (.bool true) ∧ Below W.heap.size W w' := fun W h => by
    have := adm_any (fxF) ⟨#[255, 255, 255, 255, 255, 255, 2, 97, 113, 0, 0, 6, 8, 0]⟩ W.heap.size W (h.at (show (w.heap.size, fxF) ∈ _ by simp)) (Nat.le_refl _) (h.few (show (w.heap.size, fxF) ∈ _ by simp))
    rw [fx_d3] at this
    exact this
  have D4 : ∀ W, Vs w [(w2.heap.size + 1, fxO), (w1.heap.size, fxG U M V uc mc vc true), (w.heap.size, fxF)] W → Calls Try.prog 13 #[.agg #[.string ⟨#[2, 97, 113, 0, 0, 5]⟩, .bool false, .bool false, .bool false, .bool false, .bool false, .bool false, .slice none 0 0, .slice none 0 0, .bool false, .slice none 0 0], .string ⟨#[2, 97, 113, 0, 0, 5, 2, 97, 113, 0, 0, 6, 129, 0, 0, 7, 8, 0]⟩] W fun e w' => e = .returned (.bool true) ∧ Below W.heap.size W w' := fun W h => by
    have := adm_any (fxF) ⟨#[2, 97, 113, 0, 0, 5, 2, 97, 113, 0, 0, 6, 129, 0, 0, 7, 8, 0]⟩ W.heap.size W (h.at (show (w.heap.size, fxF) ∈ _ by simp)) (Nat.le_refl _) (h.few (show (w.heap.size, fxF) ∈ _ by simp))
    rw [fx_d4] at this
    exact this
  have D5 : ∀ W, Vs w [(w2.heap.size + 1, fxO), (w1.heap.size, fxG U M V uc mc vc true), (w.heap.size, fxF)] W → Calls Try.prog 13 #[.agg #[.string ⟨#[2, 97, 113, 0, 0, 5]⟩, .bool false, .bool false, .bool false, .bool false, .bool false, .bool false, .slice none 0 0, .slice none 0 0, .bool true, .slice none 0 0], .string ⟨#[2, 97, 113, 0, 0, 5, 2, 97, 113, 0, 0, 6, 129, 0, 0, 7, 8, 0]⟩] W fun e w' => e = .returned (.bool false) ∧ Below W.heap.size W w' := fun W h => by
    have := adm_any (fxO) ⟨#[2, 97, 113, 0, 0, 5, 2, 97, 113, 0, 0, 6, 129, 0, 0, 7, 8, 0]⟩ W.heap.size W (h.at (show (w2.heap.size + 1, fxO) ∈ _ by simp)) (Nat.le_refl _) (h.few (show (w2.heap.size + 1, fxO) ∈ _ by simp))
    rw [fx_d5] at this
    exact this
  have D6 : ∀ W, Vs w [(w2.heap.size + 1, fxO), (w1.heap.size, fxG U M V uc mc vc true), (w.heap.size, fxF)] W → Calls Try.prog 13 #[.agg #[.string ⟨#[2, 97, 113, 0, 0, 5]⟩, .bool false, .bool false, .bool false, .bool false, .bool false, .bool false, .slice U 0 uc, .slice M 0 mc, .bool true, .slice V 1 vc], .string ⟨#[2, 97, 113, 0, 0, 5, 2, 97, 113, 0, 0, 6, 129, 0, 0, 7, 8, 0]⟩] W fun e w' => e = .returned (.bool true) ∧ Below W.heap.size W w' := fun W h => by
    have := adm_any (fxG U M V uc mc vc true) ⟨#[2, 97, 113, 0, 0, 5, 2, 97, 113, 0, 0, 6, 129, 0, 0, 7, 8, 0]⟩ W.heap.size W (h.at (show (w1.heap.size, fxG U M V uc mc vc true) ∈ _ by simp)) (Nat.le_refl _) (h.few (show (w1.heap.size, fxG U M V uc mc vc true) ∈ _ by simp))
    rw [fx_d6] at this
    exact this
  have D7 : ∀ W, Vs w [(w2.heap.size + 1, fxO), (w1.heap.size, fxG U M V uc mc vc true), (w.heap.size, fxF)] W → Calls Try.prog 13 #[.agg #[.string ⟨#[2, 97, 113, 0, 0, 5]⟩, .bool false, .bool false, .bool false, .bool false, .bool false, .bool false, .slice none 0 0, .slice none 0 0, .bool false, .slice none 0 0], .string ⟨#[115, 104, 111, 114, 116]⟩] W fun e w' => e = .returned (.bool false) ∧ Below W.heap.size W w' := fun W h => by
    have := adm_any (fxF) ⟨#[115, 104, 111, 114, 116]⟩ W.heap.size W (h.at (show (w.heap.size, fxF) ∈ _ by simp)) (Nat.le_refl _) (h.few (show (w.heap.size, fxF) ∈ _ by simp))
    rw [fx_d7] at this
    exact this
  have C1 : ∀ W, Vs w [(w2.heap.size + 1, fxO), (w1.heap.size, fxG U M V uc mc vc true), (w.heap.size, fxF)] W → Calls Try.prog 11 #[.agg #[.string ⟨#[2, 97, 113, 0, 0, 5]⟩, .bool false, .bool false, .bool false, .bool false, .bool false, .bool false, .slice none 0 0, .slice none 0 0, .bool false, .slice none 0 0]] W fun e w' => e = .returned (.int .i64 0) ∧ Below W.heap.size W w' := fun W h => by
    have := check_any fxF 0 W (nil_at rfl rfl rfl _ _) (Nat.zero_le _) (nil_few rfl rfl rfl)
    rw [fx_c1] at this
    exact this
  have C2 : ∀ W, Vs w [(w2.heap.size + 1, fxO), (w1.heap.size, fxG U M V uc mc vc true), (w.heap.size, fxF)] W → Calls Try.prog 11 #[.agg #[.string ⟨#[]⟩, .bool false, .bool false, .bool false, .bool false, .bool false, .bool false, .slice none 0 0, .slice none 0 0, .bool false, .slice none 0 0]] W fun e w' => e = .returned (.int .i64 160) ∧ Below W.heap.size W w' := fun W h => by
    have := check_any Fl.zero 0 W (nil_at rfl rfl rfl _ _) (Nat.zero_le _) (nil_few rfl rfl rfl)
    rw [fx_c2] at this
    exact this
  replace D1 := Lib.hid D1
  replace D2 := Lib.hid D2
  replace D3 := Lib.hid D3
  replace D4 := Lib.hid D4
  replace D5 := Lib.hid D5
  replace D6 := Lib.hid D6
  replace D7 := Lib.hid D7
  replace C1 := Lib.hid C1
  replace C2 := Lib.hid C2
  clear HV R1 HT H4 H5 c0 c1 c2 c3 c4 c5 c6 c7 c8 c9 c10 d0 d1 d2 d3 d4 d5 d6 d7 d8 d9 d10 f0 f1 f2 f3 f4 f5 f6 f7 f8 f9 f10
  refine region_class (Vs w [(w2.heap.size + 1, fxO), (w1.heap.size, fxG U M V uc mc vc true), (w.heap.size, fxF)]) (by kernel_rfl) (by kernel_rfl) hv.drew ?_
  repeat (first
      | go_big_quiet_skip
      | (go_big_quiet_want; go_big_quiet_op; first
        | go_big_quiet_on
        | (refine ⟨_, fun _ _ => rfl, ?_⟩; go_big_quiet_on)
        | (apply Exists.intro; refine ⟨?_, ?_⟩; · (intro wq hC; first | (go_at_call 20; (with_reducible refine (R2.out _).mono ?_); exact fun e w' h => ⟨h.1, h.2 ▸ hC⟩) | (go_at_call 20; (with_reducible refine (R3.out _).mono ?_); exact fun e w' h => ⟨h.1, h.2 ▸ hC⟩) | (go_at_call 13; (with_reducible refine (D1.out _ hC).mono ?_); exact fun e w' h => ⟨h.1, hC.next h.2⟩) | (go_at_call 13; (with_reducible refine (D2.out _ hC).mono ?_); exact fun e w' h => ⟨h.1, hC.next h.2⟩) | (go_at_call 13; (with_reducible refine (D3.out _ hC).mono ?_); exact fun e w' h => ⟨h.1, hC.next h.2⟩) | (go_at_call 13; (with_reducible refine (D4.out _ hC).mono ?_); exact fun e w' h => ⟨h.1, hC.next h.2⟩) | (go_at_call 13; (with_reducible refine (D5.out _ hC).mono ?_); exact fun e w' h => ⟨h.1, hC.next h.2⟩) | (go_at_call 13; (with_reducible refine (D6.out _ hC).mono ?_); exact fun e w' h => ⟨h.1, hC.next h.2⟩) | (go_at_call 13; (with_reducible refine (D7.out _ hC).mono ?_); exact fun e w' h => ⟨h.1, hC.next h.2⟩) | (go_at_call 11; (with_reducible refine (C1.out _ hC).mono ?_); exact fun e w' h => ⟨h.1, hC.next h.2⟩) | (go_at_call 11; (with_reducible refine (C2.out _ hC).mono ?_); exact fun e w' h => ⟨h.1, hC.next h.2⟩))
           go_big_quiet_on)
        | (refine ⟨.agg #[.string ⟨#[2, 97, 113, 0, 0, 5]⟩, .bool false, .bool false, .bool false, .bool false, .bool false, .bool false, .slice none 0 0, .slice none 0 0, .bool false, .slice none 0 0], fun wq hC => ?_, ?_⟩; · (have k := hC.get (show (w.heap.size, fxF) ∈ _ by simp); have c0 := k.cell 0; have c1 := k.cell 1; have c2 := k.cell 2; have c3 := k.cell 3; have c4 := k.cell 4; have c5 := k.cell 5; have c6 := k.cell 6; have c7 := k.cell 7; have c8 := k.cell 8; have c9 := k.cell 9; have c10 := k.cell 10; simp only [Fl.cells, fxF, List.getElem?_toArray, List.getElem?_cons_zero, List.getElem?_cons_succ] at c0 c1 c2 c3 c4 c5 c6 c7 c8 c9 c10; simp [c0, c1, c2, c3, c4, c5, c6, c7, c8, c9, c10]; done)
           go_big_quiet_on)
        | (refine ⟨.string ⟨#[2, 97, 113, 0, 0, 5]⟩, fun wq hC => ?_, ?_⟩; · (have k := hC.get (show (w.heap.size, fxF) ∈ _ by simp); have c0 := k.cell 0; simp only [Fl.cells, fxF, List.getElem?_toArray, List.getElem?_cons_zero] at c0; simp [c0]; done)
           go_big_quiet_on)
        | (refine ⟨.agg #[.string ⟨#[2, 97, 113, 0, 0, 5]⟩, .bool false, .bool false, .bool false, .bool false, .bool false, .bool false, .slice none 0 0, .slice none 0 0, .bool true, .slice none 0 0], fun wq hC => ?_, ?_⟩; · (have k := hC.get (show (w2.heap.size + 1, fxO) ∈ _ by simp); have c0 := k.cell 0; have c1 := k.cell 1; have c2 := k.cell 2; have c3 := k.cell 3; have c4 := k.cell 4; have c5 := k.cell 5; have c6 := k.cell 6; have c7 := k.cell 7; have c8 := k.cell 8; have c9 := k.cell 9; have c10 := k.cell 10; simp only [Fl.cells, fxO, List.getElem?_toArray, List.getElem?_cons_zero, List.getElem?_cons_succ] at c0 c1 c2 c3 c4 c5 c6 c7 c8 c9 c10; simp [c0, c1, c2, c3, c4, c5, c6, c7, c8, c9, c10]; done)
           go_big_quiet_on)
        | (refine ⟨.agg #[.string ⟨#[2, 97, 113, 0, 0, 5]⟩, .bool false, .bool false, .bool false, .bool false, .bool false, .bool false, .slice U 0 uc, .slice M 0 mc, .bool true, .slice V 1 vc], fun wq hC => ?_, ?_⟩; · (have k := hC.get (show (w1.heap.size, fxG U M V uc mc vc true) ∈ _ by simp); have c0 := k.cell 0; have c1 := k.cell 1; have c2 := k.cell 2; have c3 := k.cell 3; have c4 := k.cell 4; have c5 := k.cell 5; have c6 := k.cell 6; have c7 := k.cell 7; have c8 := k.cell 8; have c9 := k.cell 9; have c10 := k.cell 10; simp only [Fl.cells, fxG, List.length_nil, List.length_singleton, List.getElem?_toArray, List.getElem?_cons_zero, List.getElem?_cons_succ] at c0 c1 c2 c3 c4 c5 c6 c7 c8 c9 c10; simp [c0, c1, c2, c3, c4, c5, c6, c7, c8, c9, c10]; done)
           go_big_quiet_on)))
  refine wpQuiet_nil ?_
  intro w9 hM
  go_wp2
  go_ret
  exact ⟨rfl, hM.below⟩
end Go.Proofs.Ytboinnejkghfiaa
