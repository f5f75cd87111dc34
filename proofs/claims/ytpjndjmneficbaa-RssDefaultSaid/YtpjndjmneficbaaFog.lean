/-
  What flow.Of answers, for every string: the flow of the frame, or none.
-/
import Derived.Test.YtpjndjmneficbaaFof
import Derived.Test.YtpjndjmneficbaaIpp
namespace Go.Proofs.Ytpjndjmneficbaa
open Go.RowKit

def keyV (p : Pk) : ByteArray := if kindV p = 1 ∨ kindV p = 4 then p.src ++ p.dst else p.src ++ p.dst ++ p.body.extract 0 4
def ofOk (s : ByteArray) : Prop := parseE s = 0 ∧ ipE (parseF s).b = 0 ∧ (ipP (parseF s).b).v = verV (parseF s).t
instance (s : ByteArray) : Decidable (ofOk s) := by unfold ofOk; exact inferInstance
def ofV (s : ByteArray) : Fw := if ofOk s then ⟨kindV (ipP (parseF s).b), keyV (ipP (parseF s).b)⟩ else ⟨0, ⟨#[]⟩⟩
theorem chV_cases (sh : Bool) (proto a b c : Int) : chV sh proto a b c = a ∨ (sh = true ∧ chV sh proto a b c = b) ∨ (sh = true ∧ chV sh proto a b c = c) := by
  unfold chV
  cases sh
  · exact .inl rfl
  · simp only [if_true]
    split
    · simp
    · split
      · simp
      · simp
theorem kindV_cases (p : Pk) : kindV p = 1 ∨ kindV p = 4 ∨ (shB p.flags p.off p.body = true ∧ (kindV p = 2 ∨ kindV p = 3 ∨ kindV p = 5 ∨ kindV p = 6)) := by
  unfold kindV
  split
  · rcases chV_cases (shB p.flags p.off p.body) p.proto 1 2 3 with h | ⟨k, h⟩ | ⟨k, h⟩ <;> rw [h] <;> simp_all
  · rcases chV_cases (shB p.flags p.off p.body) p.proto 4 5 6 with h | ⟨k, h⟩ | ⟨k, h⟩ <;> rw [h] <;> simp_all
theorem shB_body {flags off : Int} {body : ByteArray} (h : shB flags off body = true) : 4 ≤ body.size := by
  simp only [shB, Bool.and_eq_true, decide_eq_true_eq] at h
  omega
theorem keyOf_any (p : Pk) (w : World) (hs : p.src.size ≤ 16) (hd : p.dst.size ≤ 16) : Calls Try.prog 35 #[.int .i64 (kindV p), .agg #[.int .i64 p.v, .string p.src, .string p.dst, .int .i64 p.proto, .int .i64 p.hops, .int .i64 p.cls, .int .i64 p.id, .int .i64 p.flags, .int .i64 p.off, .int .i64 p.label, .string p.opt, .string p.body]] w fun e w' => e = .returned (.string (keyV p)) ∧ Below w.heap.size w w' := by
  unfold keyV
  rcases kindV_cases p with h | h | ⟨k, h | h | h | h⟩
  · rw [h, if_pos (.inl rfl)]; exact keyOf_1 _ _ _ _ _ _ _ _ _ _ _ _ w hs hd
  · rw [h, if_pos (.inr rfl)]; exact keyOf_4 _ _ _ _ _ _ _ _ _ _ _ _ w hs hd
  · rw [h, if_neg (by decide)]; exact keyOf_2 _ _ _ _ _ _ _ _ _ _ _ _ w (shB_body k) hs hd
  · rw [h, if_neg (by decide)]; exact keyOf_3 _ _ _ _ _ _ _ _ _ _ _ _ w (shB_body k) hs hd
  · rw [h, if_neg (by decide)]; exact keyOf_5 _ _ _ _ _ _ _ _ _ _ _ _ w (shB_body k) hs hd
  · rw [h, if_neg (by decide)]; exact keyOf_6 _ _ _ _ _ _ _ _ _ _ _ _ w (shB_body k) hs hd
theorem ipP_addr (s : ByteArray) : (ipP s).src.size ≤ 16 ∧ (ipP s).dst.size ≤ 16 := by
  unfold ipP
  split
  · split
    · simp only [pk4, ByteArray.size_extract]; omega
    · simp only [pk6, ByteArray.size_extract]; omega
  · exact ⟨by decide, by decide⟩
theorem of_any (s : ByteArray) (w : World) : Calls Try.prog 20 #[.string s] w (OfIs w (ofV s).kind (ofV s).key) := by
  have A := fun W => parse_any s W
  rcases hf : parseF s with ⟨d, r, vl, pr, ty, b⟩
  by_cases h1 : parseE s = 0
  · have hb : (parseF s).b.size ≤ 281474976710656 := Nat.le_trans (parse_b h1) (by decide)
    have AI := fun W => parseI_any (parseF s).b W hb
    rw [h1] at A
    by_cases h2 : ipE (parseF s).b = 0
    · rw [h2] at AI
      by_cases h3 : (ipP (parseF s).b).v = verV (parseF s).t
      · have e : ofV s = ⟨kindV (ipP (parseF s).b), keyV (ipP (parseF s).b)⟩ := by rw [ofV, if_pos ⟨h1, h2, h3⟩]
        rw [e]
        refine of_good s w _ _ _ _ _ _ _ _ _ _ _ _ _ _ _ _ _ _ _ _ ?_ A AI (fun W => kindOf_walk _ _ _ _ _ _ _ _ _ _ _ _ W _ rfl) (fun W => keyOf_any _ W (ipP_addr _).1 (ipP_addr _).2)
        simp [h3]
      · have e : ofV s = ⟨0, ⟨#[]⟩⟩ := by rw [ofV, if_neg (fun h => h3 h.2.2)]
        rw [e]
        refine of_ver s w _ _ _ _ _ _ _ _ _ _ _ _ _ _ _ _ _ _ ?_ A AI
        simpa using h3
    · have e : ofV s = ⟨0, ⟨#[]⟩⟩ := by rw [ofV, if_neg (fun h => h2 h.2.1)]
      rw [e]
      exact of_noip s w _ _ _ _ _ _ _ _ _ _ _ _ _ _ _ _ _ _ _ (by simpa using h2) A AI
  · have e : ofV s = ⟨0, ⟨#[]⟩⟩ := by rw [ofV, if_neg (fun h => h1 h.1)]
    rw [e]
    exact of_bad s w _ _ _ _ _ _ _ (by simpa using h1) A
end Go.Proofs.Ytpjndjmneficbaa
