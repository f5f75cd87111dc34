/-
  The calls whose answers the document fixes.
-/
import Derived.Test.YtalkpllmcigjnaaMm
namespace Go.Proofs.Ytalkpllmcigjnaa
open Go.RowKit

set_option maxRecDepth 100000 in
set_option maxHeartbeats 3200000 in
theorem fixed_walk (S : ByteArray) (w : World) (h12 : S.size = 12) (eS : (S.toList == ([1, 0, 0, 0, 0, 0, 34, 0, 6, 0, 0, 0] : List UInt8)) = true)
    (A0 : ∀ W, Calls Try.prog 12 #[.agg #[.int .i64 1, .int .i64 0, .int .i64 0, .int .i64 0, .int .i64 34, .int .i64 6, .int .i64 0]] W fun e w' => e = .returned (.tuple #[.string S, .int .i64 0]) ∧ Below W.heap.size W w')
    (A1 : ∀ W, Calls Try.prog 10 #[.string (S ++ ⟨#[102, 114, 97, 109, 101]⟩)] W fun e w' => e = .returned (.tuple #[.agg #[.int .i64 1, .int .i64 0, .int .i64 0, .int .i64 0, .int .i64 34, .int .i64 6, .int .i64 0], .string ⟨#[102, 114, 97, 109, 101]⟩, .int .i64 0]) ∧ Below W.heap.size W w')
    (A2 : ∀ W, Calls Try.prog 10 #[.string (S.extract 0 11)] W fun e w' => e = .returned (.tuple #[.agg #[.int .i64 0, .int .i64 0, .int .i64 0, .int .i64 0, .int .i64 0, .int .i64 0, .int .i64 0], .string ⟨#[]⟩, .int .i64 100]) ∧ Below W.heap.size W w')
    (A3 : ∀ W, Calls Try.prog 12 #[.agg #[.int .i64 4, .int .i64 0, .int .i64 0, .int .i64 0, .int .i64 0, .int .i64 0, .int .i64 0]] W fun e w' => e = .returned (.tuple #[.string ⟨#[]⟩, .int .i64 101]) ∧ Below W.heap.size W w')
    (A4 : ∀ W, Calls Try.prog 15 #[.agg #[.int .i64 0, .int .i64 0, .int .i64 0, .int .i64 0, .int .i64 0, .int .i64 0, .int .i64 0], .string ⟨#[102, 114, 97, 109, 101]⟩] W fun e w' => e = .returned (.tuple #[.string ⟨#[102, 114, 97, 109, 101]⟩, .int .i64 0]) ∧ Below W.heap.size W w')
    (A5 : ∀ W, Calls Try.prog 15 #[.agg #[.int .i64 0, .int .i64 1, .int .i64 0, .int .i64 0, .int .i64 0, .int .i64 0, .int .i64 0], .string ⟨#[102, 114, 97, 109, 101]⟩] W fun e w' => e = .returned (.tuple #[.string ⟨#[]⟩, .int .i64 101]) ∧ Below W.heap.size W w')
    (A6 : ∀ W, Calls Try.prog 15 #[.agg #[.int .i64 1, .int .i64 0, .int .i64 0, .int .i64 0, .int .i64 9, .int .i64 0, .int .i64 0], .string ⟨#[102, 114, 97, 109, 101]⟩] W fun e w' => e = .returned (.tuple #[.string ⟨#[]⟩, .int .i64 102]) ∧ Below W.heap.size W w')
    (A7 : ∀ W, Calls Try.prog 17 #[.string ⟨#[102, 114, 97, 109, 101]⟩] W fun e w' => e = .returned (.tuple #[.agg #[.int .i64 0, .int .i64 0, .int .i64 0, .int .i64 0, .int .i64 0, .int .i64 0, .int .i64 0], .string ⟨#[102, 114, 97, 109, 101]⟩]) ∧ Below W.heap.size W w') : Calls Try.prog 14 #[] w fun e w' => e = .returned (.bool true) ∧ Below w.heap.size w w' := by
  have H0 := Lib.hid A0
  have H1 := Lib.hid A1
  have H2 := Lib.hid A2
  have H3 := Lib.hid A3
  have H4 := Lib.hid A4
  have H5 := Lib.hid A5
  have H6 := Lib.hid A6
  have H7 := Lib.hid A7
  clear A0 A1 A2 A3 A4 A5 A6 A7
  have k1 : (S.size : Int) = 12 := by omega
  have k2 : 11 ≤ S.size := by omega
  have k3 : (11 : Int) ≤ S.size := by omega
  have k4 : ¬ 9223372036854775807 < S.size + (⟨#[102, 114, 97, 109, 101]⟩ : ByteArray).size := by rw [h12]; decide
  go_enter Try.func14, Try.ntmps14
  go_wp2_with fail
  refine (H0.out _).mono ?_
  rintro e w1 ⟨rfl, hb1⟩
  go_wp2_with fail
  refine (H1.out _).mono ?_
  rintro e w2 ⟨rfl, hq⟩
  have hb2 := hb1.trans (hq.mono hb1.size)
  clear hq hb1
  go_wp2_with fail
  refine (H2.out _).mono ?_
  rintro e w3 ⟨rfl, hq⟩
  have hk3 : Blk w3 w2.heap.size 23 #[.int .i64 1, .int .i64 0, .int .i64 0, .int .i64 0, .int .i64 34, .int .i64 6, .int .i64 0] := (Blk.new w2 23 _).same (hq.block _ (by simp))
  have hb3 := (hb2.alloc hb2.size _).trans (hq.mono (by have := hb2.size; simp; omega))
  clear hq hb2
  go_wp2_with fail
  refine (H3.out _).mono ?_
  rintro e w4 ⟨rfl, hq⟩
  have hk4 := (hk3.alloc _).same (hq.block _ (by have := hk3.lt; simp; omega))
  have hb4 := (hb3.alloc hb3.size _).trans (hq.mono (by have := hb3.size; simp; omega))
  clear hq hb3 hk3
  go_wp2_with fail
  refine (H4.out _).mono ?_
  rintro e w5 ⟨rfl, hq⟩
  have hk5 := hk4.same (hq.block _ hk4.lt)
  have hb5 := hb4.trans (hq.mono (by have := hb4.size; omega))
  clear hq hb4 hk4
  go_wp2_with fail
  refine (H5.out _).mono ?_
  rintro e w6 ⟨rfl, hq⟩
  have hk6 := hk5.same (hq.block _ hk5.lt)
  have hb6 := hb5.trans (hq.mono (by have := hb5.size; omega))
  clear hq hb5 hk5
  go_wp2_with fail
  refine (H6.out _).mono ?_
  rintro e w7 ⟨rfl, hq⟩
  have hk7 := hk6.same (hq.block _ hk6.lt)
  have hb7 := hb6.trans (hq.mono (by have := hb6.size; omega))
  clear hq hb6 hk6
  go_wp2_with fail
  refine (H7.out _).mono ?_
  rintro e w8 ⟨rfl, hq⟩
  have hk8 := hk7.same (hq.block _ hk7.lt)
  have hb8 := hb7.trans (hq.mono (by have := hb7.size; omega))
  clear hq hb7 hk7
  have c0 : w8.cell? ⟨w2.heap.size, 0, none⟩ = some (.int .i64 1) := hk8.cell 0
  have c1 : w8.cell? ⟨w2.heap.size, 1, none⟩ = some (.int .i64 0) := hk8.cell 1
  have c2 : w8.cell? ⟨w2.heap.size, 2, none⟩ = some (.int .i64 0) := hk8.cell 2
  have c3 : w8.cell? ⟨w2.heap.size, 3, none⟩ = some (.int .i64 0) := hk8.cell 3
  have c4 : w8.cell? ⟨w2.heap.size, 4, none⟩ = some (.int .i64 34) := hk8.cell 4
  have c5 : w8.cell? ⟨w2.heap.size, 5, none⟩ = some (.int .i64 6) := hk8.cell 5
  have c6 : w8.cell? ⟨w2.heap.size, 6, none⟩ = some (.int .i64 0) := hk8.cell 6
  have hz := hk8.lt
  have hne : w2.heap.size ≠ w8.heap.size := by omega
  go_wp2_with fail
  go_ret
  exact ⟨rfl, hb8.alloc hb8.size _⟩
theorem fx_s : hdS ⟨1, 0, 0, 0, 34, 6, 0⟩ = ⟨#[1, 0, 0, 0, 0, 0, 34, 0, 6, 0, 0, 0]⟩ ∧ hdF ⟨1, 0, 0, 0, 34, 6, 0⟩ = 0 := by decide +kernel
theorem fx_p : hdE ((⟨#[1, 0, 0, 0, 0, 0, 34, 0, 6, 0, 0, 0]⟩ : ByteArray) ++ (⟨#[102, 114, 97, 109, 101]⟩ : ByteArray)) = 0 ∧ hdR ((⟨#[1, 0, 0, 0, 0, 0, 34, 0, 6, 0, 0, 0]⟩ : ByteArray) ++ (⟨#[102, 114, 97, 109, 101]⟩ : ByteArray)) = ⟨#[102, 114, 97, 109, 101]⟩ ∧ (hdV ((⟨#[1, 0, 0, 0, 0, 0, 34, 0, 6, 0, 0, 0]⟩ : ByteArray) ++ (⟨#[102, 114, 97, 109, 101]⟩ : ByteArray))).flags = 1 ∧ (hdV ((⟨#[1, 0, 0, 0, 0, 0, 34, 0, 6, 0, 0, 0]⟩ : ByteArray) ++ (⟨#[102, 114, 97, 109, 101]⟩ : ByteArray))).gso = 0 ∧ (hdV ((⟨#[1, 0, 0, 0, 0, 0, 34, 0, 6, 0, 0, 0]⟩ : ByteArray) ++ (⟨#[102, 114, 97, 109, 101]⟩ : ByteArray))).len = 0 ∧ (hdV ((⟨#[1, 0, 0, 0, 0, 0, 34, 0, 6, 0, 0, 0]⟩ : ByteArray) ++ (⟨#[102, 114, 97, 109, 101]⟩ : ByteArray))).siz = 0 ∧ (hdV ((⟨#[1, 0, 0, 0, 0, 0, 34, 0, 6, 0, 0, 0]⟩ : ByteArray) ++ (⟨#[102, 114, 97, 109, 101]⟩ : ByteArray))).start = 34 ∧ (hdV ((⟨#[1, 0, 0, 0, 0, 0, 34, 0, 6, 0, 0, 0]⟩ : ByteArray) ++ (⟨#[102, 114, 97, 109, 101]⟩ : ByteArray))).off = 6 ∧ (hdV ((⟨#[1, 0, 0, 0, 0, 0, 34, 0, 6, 0, 0, 0]⟩ : ByteArray) ++ (⟨#[102, 114, 97, 109, 101]⟩ : ByteArray))).count = 0 := by decide +kernel
theorem fx_q : hdE ((⟨#[1, 0, 0, 0, 0, 0, 34, 0, 6, 0, 0, 0]⟩ : ByteArray).extract 0 11) = 100 := by decide +kernel
theorem fx_o : ¬ offOk ⟨#[102, 114, 97, 109, 101]⟩ := by decide +kernel
theorem fixed_any (w : World) : Calls Try.prog 14 #[] w fun e w' => e = .returned (.bool true) ∧ Below w.heap.size w w' := by
  refine fixed_walk ⟨#[1, 0, 0, 0, 0, 0, 34, 0, 6, 0, 0, 0]⟩ w rfl (by decide +kernel) (fun W => ?_) (fun W => ?_) (fun W => ?_) (fun W => ?_) (fun W => ?_) (fun W => ?_) (fun W => ?_) (fun W => ?_)
  · have h := hbuild_any ⟨1, 0, 0, 0, 34, 6, 0⟩ W
    rw [fx_s.1, fx_s.2] at h
    exact h
  · have h := hparse_any ((⟨#[1, 0, 0, 0, 0, 0, 34, 0, 6, 0, 0, 0]⟩ : ByteArray) ++ (⟨#[102, 114, 97, 109, 101]⟩ : ByteArray)) W (by decide)
    obtain ⟨e1, e2, e3, e4, e5, e6, e7, e8, e9⟩ := fx_p
    rw [e1, e2, hdL, e3, e4, e5, e6, e7, e8, e9] at h
    exact h
  · have h := hparse_any ((⟨#[1, 0, 0, 0, 0, 0, 34, 0, 6, 0, 0, 0]⟩ : ByteArray).extract 0 11) W (by decide)
    rw [hdV, hdR, fx_q, if_neg (by decide), if_neg (by decide)] at h
    exact h
  · exact hbuild_any ⟨4, 0, 0, 0, 0, 0, 0⟩ W
  · exact fin_any .zero ⟨#[102, 114, 97, 109, 101]⟩ W (by decide)
  · exact fin_any ⟨0, 1, 0, 0, 0, 0, 0⟩ ⟨#[102, 114, 97, 109, 101]⟩ W (by decide)
  · exact fin_any ⟨1, 0, 0, 0, 9, 0, 0⟩ ⟨#[102, 114, 97, 109, 101]⟩ W (by decide)
  · have h := offload_any ⟨#[102, 114, 97, 109, 101]⟩ W (by decide)
    rw [offH, offS, if_neg fx_o, if_neg fx_o] at h
    exact h
end Go.Proofs.Ytalkpllmcigjnaa
