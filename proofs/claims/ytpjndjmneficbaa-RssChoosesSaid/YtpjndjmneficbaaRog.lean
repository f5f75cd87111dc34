/-
  What the document's Of of a flow answers, for every string: the same as the program's.
-/
import Derived.Test.YtpjndjmneficbaaRofa
import Derived.Test.YtpjndjmneficbaaRof4
import Derived.Test.YtpjndjmneficbaaRof6
namespace Go.Proofs.Ytpjndjmneficbaa
open Go.RowKit

theorem ipP_v {s : ByteArray} (h : ipE s = 0) : (ipP s).v = 4 ∨ (ipP s).v = 6 := by
  rw [ipP, if_pos h]
  split
  · exact .inl rfl
  · exact .inr rfl
theorem ipP_flags (s : ByteArray) : 0 ≤ (ipP s).flags := by
  unfold ipP
  split
  · split
    · show (0 : Int) ≤ (nat s 6 2 : Int) / 8192; omega
    · exact Int.le_refl _
  · exact Int.le_refl _
theorem shB_iff {flags off : Int} {body : ByteArray} : shB flags off body = true ↔ off = 0 ∧ flags % 2 = 0 ∧ 4 ≤ body.size := by
  unfold shB
  rw [low1]
  simp only [Bool.and_eq_true, beq_iff_eq, decide_eq_true_eq]
  omega
theorem flow_is (p : Pk) (a : Int) (ha : a = if p.v = 4 then 1 else 4) :
    (shB p.flags p.off p.body = true ∧ p.proto = 6 → (⟨kindV p, keyV p⟩ : Fw) = ⟨a + 1, p.src ++ p.dst ++ p.body.extract 0 4⟩) ∧
    (shB p.flags p.off p.body = true ∧ p.proto = 17 → (⟨kindV p, keyV p⟩ : Fw) = ⟨a + 2, p.src ++ p.dst ++ p.body.extract 0 4⟩) ∧
    (¬ (shB p.flags p.off p.body = true ∧ (p.proto = 6 ∨ p.proto = 17)) → (⟨kindV p, keyV p⟩ : Fw) = ⟨a, p.src ++ p.dst⟩) := by
  have K : kindV p = chV (shB p.flags p.off p.body) p.proto a (a + 1) (a + 2) := by
    unfold kindV
    split <;> rename_i h
    · rw [ha, if_pos h]; rfl
    · rw [ha, if_neg h]; rfl
  have ha' : a = 1 ∨ a = 4 := by rw [ha]; split <;> simp
  refine ⟨fun ⟨h1, h2⟩ => ?_, fun ⟨h1, h2⟩ => ?_, fun h => ?_⟩
  · have k : kindV p = a + 1 := by rw [K, chV, if_pos h1, if_pos h2]
    rw [keyV, k, if_neg (by omega)]
  · have k : kindV p = a + 2 := by rw [K, chV, if_pos h1, if_neg (by omega), if_pos h2]
    rw [keyV, k, if_neg (by omega)]
  · have k : kindV p = a := by
      rw [K, chV]
      split
      · rw [if_neg (fun x => h ⟨by assumption, .inl x⟩), if_neg (fun x => h ⟨by assumption, .inr x⟩)]
      · rfl
    rw [keyV, k, if_pos (by omega)]
theorem rof_good_4 (s : ByteArray) (w : World) (d r : ByteArray) (vl pr : Int) (b : ByteArray) (p : Pk) (hv : p.v = 4) (hf : 0 ≤ p.flags) (y1 : p.src.size ≤ 16) (y2 : p.dst.size ≤ 16)
    (A : ∀ W, Calls Try.prog 40 #[.string s] W fun e w' => e = .returned (.tuple #[.agg #[.string d, .string r, .int .i64 vl, .int .i64 pr, .int .i64 2048, .string b], .int .i64 0]) ∧ Below W.heap.size W w')
    (AI : ∀ W, Calls Try.prog 41 #[.string b] W fun e w' => e = .returned (.tuple #[p.val, .int .i64 0]) ∧ Below W.heap.size W w') :
    Calls Try.prog 26 #[.string s] w (OfIs w (⟨kindV p, keyV p⟩ : Fw).kind (⟨kindV p, keyV p⟩ : Fw).key) := by
  have hx : p.flags.tmod 2 = p.flags % 2 := Int.tmod_eq_emod_of_nonneg hf
  simp only [Pk.val, pkC, hv] at AI
  have FI := flow_is p 1 (by rw [hv]; rfl)
  by_cases p6 : p.proto = 6
  · have g1 : (p.proto == 6) = true := by simpa using p6
    have g2 : (p.proto == 17) = false := by simpa using (by omega : p.proto ≠ 17)
    by_cases o0 : p.off = 0
    · have g3 : (p.off == 0) = true := by simpa using o0
      by_cases f0 : p.flags % 2 = 0
      · have g4 : (p.flags % 2 == 0) = true := by simpa using f0
        by_cases b4 : 4 ≤ p.body.size
        · rw [FI.1 ⟨shB_iff.2 ⟨o0, f0, b4⟩, p6⟩]
          exact rof_port_4a s w _ _ _ _ _ _ _ _ _ _ _ _ _ _ _ _ _ hx y1 y2 g1 g2 g3 g4 b4 A AI
        · rw [FI.2.2 (fun x => b4 (shB_iff.1 x.1).2.2)]
          exact rof_bare_4h s w _ _ _ _ _ _ _ _ _ _ _ _ _ _ _ _ _ hx y1 y2 g1 g3 g4 (by omega) A AI
      · have g4 : (p.flags % 2 == 0) = false := by simpa using f0
        rw [FI.2.2 (fun x => f0 (shB_iff.1 x.1).2.1)]
        exact rof_bare_4f s w _ _ _ _ _ _ _ _ _ _ _ _ _ _ _ _ _ hx y1 y2 g1 g3 g4 A AI
    · have g3 : (p.off == 0) = false := by simpa using o0
      rw [FI.2.2 (fun x => o0 (shB_iff.1 x.1).1)]
      exact rof_bare_4d s w _ _ _ _ _ _ _ _ _ _ _ _ _ _ _ _ y1 y2 g1 g3 A AI
  · have g1 : (p.proto == 6) = false := by simpa using p6
    by_cases p17 : p.proto = 17
    · have g2 : (p.proto == 17) = true := by simpa using p17
      by_cases o0 : p.off = 0
      · have g3 : (p.off == 0) = true := by simpa using o0
        by_cases f0 : p.flags % 2 = 0
        · have g4 : (p.flags % 2 == 0) = true := by simpa using f0
          by_cases b4 : 4 ≤ p.body.size
          · rw [FI.2.1 ⟨shB_iff.2 ⟨o0, f0, b4⟩, p17⟩]
            exact rof_port_4b s w _ _ _ _ _ _ _ _ _ _ _ _ _ _ _ _ _ hx y1 y2 g1 g2 g3 g4 b4 A AI
          · rw [FI.2.2 (fun x => b4 (shB_iff.1 x.1).2.2)]
            exact rof_bare_4i s w _ _ _ _ _ _ _ _ _ _ _ _ _ _ _ _ _ hx y1 y2 g1 g2 g3 g4 (by omega) A AI
        · have g4 : (p.flags % 2 == 0) = false := by simpa using f0
          rw [FI.2.2 (fun x => f0 (shB_iff.1 x.1).2.1)]
          exact rof_bare_4g s w _ _ _ _ _ _ _ _ _ _ _ _ _ _ _ _ _ hx y1 y2 g1 g2 g3 g4 A AI
      · have g3 : (p.off == 0) = false := by simpa using o0
        rw [FI.2.2 (fun x => o0 (shB_iff.1 x.1).1)]
        exact rof_bare_4e s w _ _ _ _ _ _ _ _ _ _ _ _ _ _ _ _ y1 y2 g1 g2 g3 A AI
    · have g2 : (p.proto == 17) = false := by simpa using p17
      rw [FI.2.2 (fun x => x.2.elim p6 p17)]
      exact rof_bare_4c s w _ _ _ _ _ _ _ _ _ _ _ _ _ _ _ _ y1 y2 g1 g2 A AI
theorem rof_good_6 (s : ByteArray) (w : World) (d r : ByteArray) (vl pr : Int) (b : ByteArray) (p : Pk) (hv : p.v = 6) (hf : 0 ≤ p.flags) (y1 : p.src.size ≤ 16) (y2 : p.dst.size ≤ 16)
    (A : ∀ W, Calls Try.prog 40 #[.string s] W fun e w' => e = .returned (.tuple #[.agg #[.string d, .string r, .int .i64 vl, .int .i64 pr, .int .i64 34525, .string b], .int .i64 0]) ∧ Below W.heap.size W w')
    (AI : ∀ W, Calls Try.prog 41 #[.string b] W fun e w' => e = .returned (.tuple #[p.val, .int .i64 0]) ∧ Below W.heap.size W w') :
    Calls Try.prog 26 #[.string s] w (OfIs w (⟨kindV p, keyV p⟩ : Fw).kind (⟨kindV p, keyV p⟩ : Fw).key) := by
  have hx : p.flags.tmod 2 = p.flags % 2 := Int.tmod_eq_emod_of_nonneg hf
  simp only [Pk.val, pkC, hv] at AI
  have FI := flow_is p 4 (by rw [hv]; rfl)
  by_cases p6 : p.proto = 6
  · have g1 : (p.proto == 6) = true := by simpa using p6
    have g2 : (p.proto == 17) = false := by simpa using (by omega : p.proto ≠ 17)
    by_cases o0 : p.off = 0
    · have g3 : (p.off == 0) = true := by simpa using o0
      by_cases f0 : p.flags % 2 = 0
      · have g4 : (p.flags % 2 == 0) = true := by simpa using f0
        by_cases b4 : 4 ≤ p.body.size
        · rw [FI.1 ⟨shB_iff.2 ⟨o0, f0, b4⟩, p6⟩]
          exact rof_port_6a s w _ _ _ _ _ _ _ _ _ _ _ _ _ _ _ _ _ hx y1 y2 g1 g2 g3 g4 b4 A AI
        · rw [FI.2.2 (fun x => b4 (shB_iff.1 x.1).2.2)]
          exact rof_bare_6h s w _ _ _ _ _ _ _ _ _ _ _ _ _ _ _ _ _ hx y1 y2 g1 g3 g4 (by omega) A AI
      · have g4 : (p.flags % 2 == 0) = false := by simpa using f0
        rw [FI.2.2 (fun x => f0 (shB_iff.1 x.1).2.1)]
        exact rof_bare_6f s w _ _ _ _ _ _ _ _ _ _ _ _ _ _ _ _ _ hx y1 y2 g1 g3 g4 A AI
    · have g3 : (p.off == 0) = false := by simpa using o0
      rw [FI.2.2 (fun x => o0 (shB_iff.1 x.1).1)]
      exact rof_bare_6d s w _ _ _ _ _ _ _ _ _ _ _ _ _ _ _ _ y1 y2 g1 g3 A AI
  · have g1 : (p.proto == 6) = false := by simpa using p6
    by_cases p17 : p.proto = 17
    · have g2 : (p.proto == 17) = true := by simpa using p17
      by_cases o0 : p.off = 0
      · have g3 : (p.off == 0) = true := by simpa using o0
        by_cases f0 : p.flags % 2 = 0
        · have g4 : (p.flags % 2 == 0) = true := by simpa using f0
          by_cases b4 : 4 ≤ p.body.size
          · rw [FI.2.1 ⟨shB_iff.2 ⟨o0, f0, b4⟩, p17⟩]
            exact rof_port_6b s w _ _ _ _ _ _ _ _ _ _ _ _ _ _ _ _ _ hx y1 y2 g1 g2 g3 g4 b4 A AI
          · rw [FI.2.2 (fun x => b4 (shB_iff.1 x.1).2.2)]
            exact rof_bare_6i s w _ _ _ _ _ _ _ _ _ _ _ _ _ _ _ _ _ hx y1 y2 g1 g2 g3 g4 (by omega) A AI
        · have g4 : (p.flags % 2 == 0) = false := by simpa using f0
          rw [FI.2.2 (fun x => f0 (shB_iff.1 x.1).2.1)]
          exact rof_bare_6g s w _ _ _ _ _ _ _ _ _ _ _ _ _ _ _ _ _ hx y1 y2 g1 g2 g3 g4 A AI
      · have g3 : (p.off == 0) = false := by simpa using o0
        rw [FI.2.2 (fun x => o0 (shB_iff.1 x.1).1)]
        exact rof_bare_6e s w _ _ _ _ _ _ _ _ _ _ _ _ _ _ _ _ y1 y2 g1 g2 g3 A AI
    · have g2 : (p.proto == 17) = false := by simpa using p17
      rw [FI.2.2 (fun x => x.2.elim p6 p17)]
      exact rof_bare_6c s w _ _ _ _ _ _ _ _ _ _ _ _ _ _ _ _ y1 y2 g1 g2 A AI
theorem rof_any (s : ByteArray) (w : World) : Calls Try.prog 26 #[.string s] w (OfIs w (ofV s).kind (ofV s).key) := by
  have A := fun W => refParse_any s W
  by_cases h1 : parseE s = 0
  · have hb : (parseF s).b.size ≤ 281474976710656 := Nat.le_trans (parse_b h1) (by decide)
    have AI := fun W => refp_any (parseF s).b W hb
    rw [h1] at A
    have y := ipP_addr (parseF s).b
    have hf := ipP_flags (parseF s).b
    by_cases h2 : ipE (parseF s).b = 0
    · rw [h2] at AI
      have hv := ipP_v h2
      simp only [Fr.val, ethC] at A
      by_cases t4 : (parseF s).t = 2048
      · rcases hv with hv | hv
        · have e : ofV s = ⟨kindV (ipP (parseF s).b), keyV (ipP (parseF s).b)⟩ := by rw [ofV, if_pos ⟨h1, h2, by rw [hv, t4]; rfl⟩]
          rw [e]
          rw [t4] at A
          exact rof_good_4 s w _ _ _ _ _ _ hv hf y.1 y.2 A AI
        · have e : ofV s = ⟨0, ⟨#[]⟩⟩ := by
            rw [ofV, if_neg]
            rintro ⟨_, _, h3⟩
            rw [hv, t4] at h3
            exact absurd h3 (by decide)
          rw [e]
          rw [t4] at A
          simp only [Pk.val, pkC, hv] at AI
          exact rof_ver_2048 s w _ _ _ _ _ _ _ _ _ _ _ _ _ _ _ _ A AI
      · by_cases t6 : (parseF s).t = 34525
        · rcases hv with hv | hv
          · have e : ofV s = ⟨0, ⟨#[]⟩⟩ := by
              rw [ofV, if_neg]
              rintro ⟨_, _, h3⟩
              rw [hv, t6] at h3
              exact absurd h3 (by decide)
            rw [e]
            rw [t6] at A
            simp only [Pk.val, pkC, hv] at AI
            exact rof_ver_34525 s w _ _ _ _ _ _ _ _ _ _ _ _ _ _ _ _ A AI
          · have e : ofV s = ⟨kindV (ipP (parseF s).b), keyV (ipP (parseF s).b)⟩ := by rw [ofV, if_pos ⟨h1, h2, by rw [hv, t6]; rfl⟩]
            rw [e]
            rw [t6] at A
            exact rof_good_6 s w _ _ _ _ _ _ hv hf y.1 y.2 A AI
        · have e : ofV s = ⟨0, ⟨#[]⟩⟩ := by
            rw [ofV, if_neg]
            rintro ⟨_, _, h3⟩
            rw [verV, if_neg t4, if_neg t6] at h3
            omega
          rw [e]
          exact rof_type s w _ _ _ _ _ _ (by simpa using t4) (by simpa using t6) A
    · have e : ofV s = ⟨0, ⟨#[]⟩⟩ := by rw [ofV, if_neg (fun h => h2 h.2.1)]
      rw [e]
      simp only [Fr.val, ethC] at A
      by_cases t4 : (parseF s).t = 2048
      · rw [t4] at A
        exact rof_noip_2048 s w _ _ _ _ _ _ _ _ _ _ _ _ _ _ _ _ _ _ (by simpa using h2) A AI
      · by_cases t6 : (parseF s).t = 34525
        · rw [t6] at A
          exact rof_noip_34525 s w _ _ _ _ _ _ _ _ _ _ _ _ _ _ _ _ _ _ (by simpa using h2) A AI
        · exact rof_type s w _ _ _ _ _ _ (by simpa using t4) (by simpa using t6) A
  · have e : ofV s = ⟨0, ⟨#[]⟩⟩ := by rw [ofV, if_neg (fun h => h1 h.1)]
    rw [e]
    exact rof_bad s w _ _ _ _ _ _ _ (by simpa using h1) A
end Go.Proofs.Ytpjndjmneficbaa
