/-
  A small queue laid by the laws; a new queue over a memory; no condition.
-/
import Derived.Test.YtbpgblmhacpjlaaLw0
namespace Go.Proofs.Ytbpgblmhacpjlaa
open Go.RowKit

theorem lay_small {n : Nat} (h1 : 1 ≤ n) (h2 : n ≤ 8) : layB (xs0 (bytesN 1024)) 0 (n : Int) 512 516 = true := by
  have e1 : bytesN 1024 = 1024 := by decide
  rw [e1]
  unfold layB fitsB mayB
  rw [xs0_length (by omega)]
  have : n = 1 ∨ n = 2 ∨ n = 3 ∨ n = 4 ∨ n = 5 ∨ n = 6 ∨ n = 7 ∨ n = 8 := by omega
  rcases this with rfl | rfl | rfl | rfl | rfl | rfl | rfl | rfl <;> decide +kernel
theorem laid_small (n : Nat) (h1 : 1 ≤ n) (h2 : n ≤ 8) (V : Int) (hV : V = (n : Int)) (w : World) : Calls Try.prog 22 #[.agg #[.int .i64 1024, .int .i64 0, .int .i64 V, .int .i64 512, .int .i64 516, .slice none 0 0]] w fun e w' =>
    ∃ g gq gx xs q, e = .returned (.tuple #[.pointer (some ⟨g, 0, none⟩), .pointer (some ⟨gq, 0, none⟩), .pointer (some ⟨gx, 0, none⟩), .bool true]) ∧ St (fun _ => False) w (stars [drvP g gq xs q]) w' ∧ NI n xs q ∧ FI n 0 xs q ∧ q.free = n ∧ q.since = 0 := by
  subst hV
  have h := laid_v 1024 0 (n : Int) 512 516 none 0 0 w
  have hl := lay_small h1 h2
  have hok := newV_ok hl
  have e1 : bytesN 1024 = 1024 := by decide
  have hx : (xs0 (bytesN 1024)).length = 1024 := by rw [e1]; exact xs0_length (by omega)
  unfold LaidP at h
  rw [hl] at h
  refine h.mono fun e w' hh => ?_
  rw [if_pos rfl] at hh
  obtain ⟨g, gq, gk, gx, he, hs⟩ := hh
  have hf := fi_new hx h2 hok
  exact ⟨g, gq, gx, _, _, he, hs.weak fun F e => first_of e, ni_new hx h1 h2 hok, hf.1, hf.2, rfl⟩
theorem drvqnew_v {F : Nat → Prop} {w : World} {g : Nat} {xs : List UInt8} (h : (memA g xs).P F w) (hx : xs.length = 1024) :
    Calls Try.prog 31 #[.pointer (some ⟨g, 0, none⟩)] w fun e w' => e = .returned (.bool true) ∧ ∃ A, St F w A w' := by
  have hk : layB xs 0 4 512 516 = true := by
    unfold layB fitsB mayB
    rw [hx]
    decide +kernel
  have HD := Lib.hid (dnew_good h 0 4 512 516 hk)
  have hf : ((newV 0 4 512 516).free : Int) = 4 := by decide +kernel
  obtain ⟨q, hq⟩ : ∃ q, newV ((0 : Nat) : Int) ((4 : Nat) : Int) ((512 : Nat) : Int) ((516 : Nat) : Int) = q := ⟨_, rfl⟩
  have hf : (q.free : Int) = 4 := by rw [← hq]; exact hf
  rw [hq] at HD
  have HF := Lib.hid hf
  clear hf hq hk h
  go_enter Try.func31, Try.ntmps31
  go_wp2_with fail
  refine HD.out.mono ?_
  rintro e w1 ⟨k, rfl, S⟩
  obtain ⟨F2, hD⟩ := S.get 1 (by simp)
  have H := dfree_v hD
  have S := Lib.hid S
  have H := Lib.hid H
  clear HD hD
  go_wp2_with fail
  refine H.out.mono ?_
  rintro e wx ⟨rfl, rfl⟩
  have hf := HF.out
  go_wp2_with fail
  go_ret
  exact ⟨rfl, _, S.out⟩
end Go.Proofs.Ytbpgblmhacpjlaa
