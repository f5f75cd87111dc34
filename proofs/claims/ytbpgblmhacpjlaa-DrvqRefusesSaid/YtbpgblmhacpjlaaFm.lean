/-
  The numbers of the calls whose answers the document fixes; no condition.
-/
import Derived.Test.YtbpgblmhacpjlaaLc
namespace Go.Proofs.Ytbpgblmhacpjlaa
open Go.RowKit

def fx0 : List UInt8 := List.replicate 256 0
def fq0 : Vs := newV 0 4 64 68
def fp : List IPt := [⟨128, 5, false⟩, ⟨140, 6, true⟩]
def fx1 : List UInt8 := putN fq0 (fp.map IPt.pt) 0 fx0 2
def fq1 : Vs := fq0.posted 2
def fx2 : List UInt8 := over fx1 8 ⟨#[7, 0, 0, 0, 0, 0, 128, 128]⟩
theorem stood_list : stood.data.toList = List.replicate 30 0 ++ [119, 104, 97, 116, 32, 115, 116, 111, 111, 100, 32, 116, 104, 101, 114, 101] := by
  unfold stood noughts
  simp [ByteArray.data_append]
theorem lay_fx : layX 256 0 4 64 68 = fx0 := by
  have e1 : bytesN 256 = 256 := by decide
  have h0 : xs0 256 = (List.replicate 30 0 ++ [119, 104, 97, 116, 32, 115, 116, 111, 111, 100, 32, 116, 104, 101, 114, 101]) ++ List.replicate 210 0 := by
    unfold xs0 over
    rw [stood_size, stood_list, List.take_zero, List.nil_append, List.drop_replicate]
  unfold layX newX
  rw [e1, h0]
  decide +kernel
theorem fq0_ok : fq0.Ok fx0.length := by constructor <;> decide +kernel
theorem fx_lay : layB (xs0 (bytesN 256)) 0 4 64 68 = true := by
  have e1 : bytesN 256 = 256 := by decide
  rw [e1]
  unfold layB fitsB mayB
  rw [xs0_length (by omega)]
  decide +kernel
theorem f_one : postC fx0 fq0 fp = (0, 0, fx1, fq1) := by
  have h1 : chainB fx0 fp = true := by decide +kernel
  have h2 : ¬ fq0.free < fp.length := by decide +kernel
  have h3 : leastId fq0.hs = 0 := by decide +kernel
  unfold postC
  rw [if_pos h1, if_neg h2, h3]; rfl
theorem fx1_length : fx1.length = 256 := by decide +kernel
theorem fq1_ok : fq1.Ok fx1.length := by rw [fx1_length]; constructor <;> decide +kernel
theorem f_free : (fq1.free : Int) = 2 := by decide +kernel
theorem f_two : postC fx1 fq1 (⟨128, 5, false⟩ :: fp) = (0, 151, fx1, fq1) := by
  have h1 : chainB fx1 (⟨128, 5, false⟩ :: fp) = true := by
    unfold chainB chainGo fp chainGo chainGo chainGo mayB
    rw [fx1_length]; decide +kernel
  have h2 : fq1.free < (⟨128, 5, false⟩ :: fp).length := by decide +kernel
  unfold postC
  rw [if_pos h1, if_pos h2]
theorem f_three : postC fx1 fq1 [] = (0, 150, fx1, fq1) := rfl
theorem f_four : postC fx1 fq1 [⟨140, 6, true⟩, ⟨128, 5, false⟩] = (0, 150, fx1, fq1) := by
  have h1 : ¬ chainB fx1 [⟨140, 6, true⟩, ⟨128, 5, false⟩] = true := by
    unfold chainB chainGo chainGo chainGo mayB
    rw [fx1_length]; decide +kernel
  unfold postC
  rw [if_neg h1]
theorem f_five : reapC fx1 fq1 = (0, 0, false, 0, fq1) := by
  have h1 : ¬ usedB (deAt fx1 (fq1.ring + 16 * fq1.ba)).f fq1.bw = true := by decide +kernel
  unfold reapC
  rw [if_neg h1]
theorem f_read : (⟨((fx1.drop 0).take 32).toArray⟩ : ByteArray) = ⟨#[128, 0, 0, 0, 0, 0, 0, 0, 5, 0, 0, 0, 0, 0, 129, 0, 140, 0, 0, 0, 0, 0, 0, 0, 6, 0, 0, 0, 0, 0, 130, 0]⟩ := by
  have : (fx1.drop 0).take 32 = [128, 0, 0, 0, 0, 0, 0, 0, 5, 0, 0, 0, 0, 0, 129, 0, 140, 0, 0, 0, 0, 0, 0, 0, 6, 0, 0, 0, 0, 0, 130, 0] := by decide +kernel
  rw [this]
theorem f_write : wrX fx1 8 ⟨#[7, 0, 0, 0, 0, 0, 128, 128]⟩ = fx2 := by
  unfold wrX fx2
  rw [if_pos (by rw [fx1_length]; decide)]; rfl
theorem fx2_length : fx2.length = 256 := by decide +kernel
theorem fq1_ok2 : fq1.Ok fx2.length := by rw [fx2_length]; have := fq1_ok; rwa [fx1_length] at this
theorem f_six : reapC fx2 fq1 = (0, 7, true, 0, fq1.reaped 0) := by
  have h1 : usedB (deAt fx2 (fq1.ring + 16 * fq1.ba)).f fq1.bw = true := by decide +kernel
  have h2 : (deAt fx2 (fq1.ring + 16 * fq1.ba)).id = 0 := by decide +kernel
  have h3 : (deAt fx2 (fq1.ring + 16 * fq1.ba)).n = 7 := by decide +kernel
  have h4 : 0 < fq1.hs.getD 0 0 := by decide +kernel
  unfold reapC
  rw [if_pos h1, h2, if_pos h4, h3]; rfl
theorem fq2_ok : (fq1.reaped 0).Ok fx2.length := by rw [fx2_length]; constructor <;> decide +kernel
theorem f_seven : layB fx2 0 0 0 0 = false := rfl
theorem f_eight : ((fq1.reaped 0).free : Int) = 4 ∧ (heldL (fq1.reaped 0).hs).length = 0 ∧ (fq1.reaped 0).ba = 2 ∧ (fq1.reaped 0).bw = true := by decide +kernel
end Go.Proofs.Ytbpgblmhacpjlaa
