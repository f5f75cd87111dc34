/-
  What flow's small functions answer (versionOf, showsPorts, choose, kindOf, keyOf, first, Less, Hash) and the document's Less: for every packet and flow whose strings are within the language's own reach.
-/
import Derived.Test.YtpjndjmneficbaaIpr
import Derived.Test.YtpjndjmneficbaaThash
import Derived.Deep.QuietTactic
import Derived.BigQuiet
namespace Go.Proofs.Ytpjndjmneficbaa
open Go.RowKit

theorem low1 (n : Int) : bits .and .i64 n 1 = n % 2 := by
  have e : (BitVec.ofInt 64 1).toNat = 2 ^ 1 - 1 := by decide
  have k : (BitVec.ofInt 64 n &&& BitVec.ofInt 64 1).toNat = (n % ((2 ^ 64 : Nat) : Int)).toNat % 2 ^ 1 := by
    rw [BitVec.toNat_and, BitVec.toNat_ofInt, e, Nat.and_two_pow_sub_one_eq_mod]
  show IntKind.i64.wrap ((BitVec.ofInt 64 n &&& BitVec.ofInt 64 1).toNat : Nat) = n % 2
  rw [k, IntKind.wrap_i64]
  omega
/-- A flow. -/
structure Fw where
  kind : Int
  key : ByteArray
def verV (t : Int) : Int := if t = 2048 then 4 else if t = 34525 then 6 else 0
theorem ver_any (t : Int) (w : World) : Calls Try.prog 33 #[.int .i64 t] w fun e w' => e = .returned (.int .i64 (verV t)) ∧ w = w' := by
  unfold verV
  by_cases h4 : t = 2048
  · subst h4
    go_enter Try.func33, Try.ntmps33
    go_wp2
    go_ret
    exact ⟨rfl, rfl⟩
  · rw [if_neg h4]
    have e4 : (t == 2048) = false := by simpa using h4
    by_cases h6 : t = 34525
    · subst h6
      go_enter Try.func33, Try.ntmps33
      go_wp2
      go_ret
      exact ⟨rfl, rfl⟩
    · rw [if_neg h6]
      have e6 : (t == 34525) = false := by simpa using h6
      go_enter Try.func33, Try.ntmps33
      go_wp2
      go_ret
      exact ⟨rfl, rfl⟩
def shB (flags off : Int) (body : ByteArray) : Bool := (off == 0) && (bits .and .i64 flags 1 == 0) && decide (4 ≤ (body.size : Int))
theorem sh_any (v : Int) (src dst : ByteArray) (proto hops cls id flags off label : Int) (opt body : ByteArray) (w : World) : Calls Try.prog 68 #[.agg #[.int .i64 v, .string src, .string dst, .int .i64 proto, .int .i64 hops, .int .i64 cls, .int .i64 id, .int .i64 flags, .int .i64 off, .int .i64 label, .string opt, .string body]] w fun e w' => e = .returned (.bool (shB flags off body)) ∧ Below w.heap.size w w' := by
  unfold shB
  generalize h0 : (off == 0) = b0
  generalize h1 : (bits .and .i64 flags 1 == 0) = b1
  cases b0
  · go_enter Try.func68, Try.ntmps68
    go_wp2
    go_ret
    exact ⟨rfl, (Below.refl _ _).alloc (Nat.le_refl _) _⟩
  cases b1
  · go_enter Try.func68, Try.ntmps68
    go_wp2
    go_ret
    exact ⟨rfl, (Below.refl _ _).alloc (Nat.le_refl _) _⟩
  · go_enter Try.func68, Try.ntmps68
    go_wp2
    go_ret
    exact ⟨rfl, (Below.refl _ _).alloc (Nat.le_refl _) _⟩
/-- the kind of those of one version -/
def chV (sh : Bool) (proto a b c : Int) : Int := if sh then (if proto = 6 then b else if proto = 17 then c else a) else a
set_option maxHeartbeats 1600000 in
theorem choose_any (v : Int) (src dst : ByteArray) (proto hops cls id flags off label : Int) (opt body : ByteArray) (x y z : Int) (w : World) : Calls Try.prog 52 #[.agg #[.int .i64 v, .string src, .string dst, .int .i64 proto, .int .i64 hops, .int .i64 cls, .int .i64 id, .int .i64 flags, .int .i64 off, .int .i64 label, .string opt, .string body], .int .i64 x, .int .i64 y, .int .i64 z] w fun e w' => e = .returned (.int .i64 (chV (shB flags off body) proto x y z)) ∧ Below w.heap.size w w' := by
  have A := fun W => sh_any v src dst proto hops cls id flags off label opt body W
  unfold chV
  generalize shB flags off body = k at *
  have HA := Lib.hid A
  clear A
  cases k
  · go_enter Try.func52, Try.ntmps52
    go_wp2_with fail
    refine (HA.out _).mono ?_
    rintro e w1 ⟨rfl, hq⟩
    have h1 := (Held.new w 56 #[.int .i64 v, .string src, .string dst, .int .i64 proto, .int .i64 hops, .int .i64 cls, .int .i64 id, .int .i64 flags, .int .i64 off, .int .i64 label, .string opt, .string body]).next hq
    clear hq
    go_wp2_with fail
    go_ret
    exact ⟨rfl, h1.below⟩
  · by_cases h6 : proto = 6
    · subst h6
      go_enter Try.func52, Try.ntmps52
      go_wp2_with fail
      refine (HA.out _).mono ?_
      rintro e w1 ⟨rfl, hq⟩
      have h1 := (Held.new w 56 #[.int .i64 v, .string src, .string dst, .int .i64 6, .int .i64 hops, .int .i64 cls, .int .i64 id, .int .i64 flags, .int .i64 off, .int .i64 label, .string opt, .string body]).next hq
      clear hq
      have c3 := h1.blk.cell 3
      go_wp2_with fail
      go_ret
      exact ⟨rfl, h1.below⟩
    · have e6 : (proto == 6) = false := by simpa using h6
      by_cases h17 : proto = 17
      · subst h17
        go_enter Try.func52, Try.ntmps52
        go_wp2_with fail
        refine (HA.out _).mono ?_
        rintro e w1 ⟨rfl, hq⟩
        have h1 := (Held.new w 56 #[.int .i64 v, .string src, .string dst, .int .i64 17, .int .i64 hops, .int .i64 cls, .int .i64 id, .int .i64 flags, .int .i64 off, .int .i64 label, .string opt, .string body]).next hq
        clear hq
        have c3 := h1.blk.cell 3
        go_wp2_with fail
        go_ret
        exact ⟨rfl, h1.below⟩
      · have e17 : (proto == 17) = false := by simpa using h17
        rw [if_neg h6, if_neg h17]
        go_enter Try.func52, Try.ntmps52
        go_wp2_with fail
        refine (HA.out _).mono ?_
        rintro e w1 ⟨rfl, hq⟩
        have h1 := (Held.new w 56 #[.int .i64 v, .string src, .string dst, .int .i64 proto, .int .i64 hops, .int .i64 cls, .int .i64 id, .int .i64 flags, .int .i64 off, .int .i64 label, .string opt, .string body]).next hq
        clear hq
        have c3 := h1.blk.cell 3
        go_wp2_with fail
        go_ret
        exact ⟨rfl, h1.below⟩
def kindV (p : Pk) : Int := if p.v = 4 then chV (shB p.flags p.off p.body) p.proto 1 2 3 else chV (shB p.flags p.off p.body) p.proto 4 5 6
theorem kindOf_walk (v : Int) (src dst : ByteArray) (proto hops cls id flags off label : Int) (opt body : ByteArray) (w : World) (n : Int) (hn : (if v = 4 then chV (shB flags off body) proto 1 2 3 else chV (shB flags off body) proto 4 5 6) = n) : Calls Try.prog 34 #[.agg #[.int .i64 v, .string src, .string dst, .int .i64 proto, .int .i64 hops, .int .i64 cls, .int .i64 id, .int .i64 flags, .int .i64 off, .int .i64 label, .string opt, .string body]] w fun e w' => e = .returned (.int .i64 n) ∧ Below w.heap.size w w' := by
  by_cases h4 : v = 4
  · rw [if_pos h4] at hn
    have A := fun W => choose_any v src dst proto hops cls id flags off label opt body 1 2 3 W
    rw [hn] at A
    subst h4
    have HA := Lib.hid A
    clear A hn
    go_enter Try.func34, Try.ntmps34
    go_wp2_with fail
    refine (HA.out _).mono ?_
    rintro e w1 ⟨rfl, hq⟩
    have h1 := (Held.new w 56 #[.int .i64 4, .string src, .string dst, .int .i64 proto, .int .i64 hops, .int .i64 cls, .int .i64 id, .int .i64 flags, .int .i64 off, .int .i64 label, .string opt, .string body]).next hq
    go_wp2_with fail
    go_ret
    exact ⟨rfl, h1.below⟩
  · rw [if_neg h4] at hn
    have A := fun W => choose_any v src dst proto hops cls id flags off label opt body 4 5 6 W
    rw [hn] at A
    have e4 : (v == 4) = false := by simpa using h4
    have HA := Lib.hid A
    clear A hn
    go_enter Try.func34, Try.ntmps34
    go_wp2_with fail
    refine (HA.out _).mono ?_
    rintro e w1 ⟨rfl, hq⟩
    have h1 := (Held.new w 56 #[.int .i64 v, .string src, .string dst, .int .i64 proto, .int .i64 hops, .int .i64 cls, .int .i64 id, .int .i64 flags, .int .i64 off, .int .i64 label, .string opt, .string body]).next hq
    go_wp2_with fail
    go_ret
    exact ⟨rfl, h1.below⟩
theorem keyOf_2 (v : Int) (src dst : ByteArray) (proto hops cls id flags off label : Int) (opt body : ByteArray) (w : World) (hb : 4 ≤ body.size) (hs : src.size ≤ 16) (hd : dst.size ≤ 16) : Calls Try.prog 35 #[.int .i64 2, .agg #[.int .i64 v, .string src, .string dst, .int .i64 proto, .int .i64 hops, .int .i64 cls, .int .i64 id, .int .i64 flags, .int .i64 off, .int .i64 label, .string opt, .string body]] w fun e w' => e = .returned (.string (src ++ dst ++ body.extract 0 4)) ∧ Below w.heap.size w w' := by
  obtain ⟨T, hT, eT⟩ : ∃ T : ByteArray, T.size ≤ 4 ∧ body.extract 0 4 = T := ⟨_, by rw [ByteArray.size_extract]; omega, rfl⟩
  rw [eT]
  go_enter Try.func35, Try.ntmps35
  go_wp2
  go_ret
  exact ⟨rfl, (Below.refl _ _).alloc (Nat.le_refl _) _⟩
theorem keyOf_3 (v : Int) (src dst : ByteArray) (proto hops cls id flags off label : Int) (opt body : ByteArray) (w : World) (hb : 4 ≤ body.size) (hs : src.size ≤ 16) (hd : dst.size ≤ 16) : Calls Try.prog 35 #[.int .i64 3, .agg #[.int .i64 v, .string src, .string dst, .int .i64 proto, .int .i64 hops, .int .i64 cls, .int .i64 id, .int .i64 flags, .int .i64 off, .int .i64 label, .string opt, .string body]] w fun e w' => e = .returned (.string (src ++ dst ++ body.extract 0 4)) ∧ Below w.heap.size w w' := by
  obtain ⟨T, hT, eT⟩ : ∃ T : ByteArray, T.size ≤ 4 ∧ body.extract 0 4 = T := ⟨_, by rw [ByteArray.size_extract]; omega, rfl⟩
  rw [eT]
  go_enter Try.func35, Try.ntmps35
  go_wp2
  go_ret
  exact ⟨rfl, (Below.refl _ _).alloc (Nat.le_refl _) _⟩
theorem keyOf_5 (v : Int) (src dst : ByteArray) (proto hops cls id flags off label : Int) (opt body : ByteArray) (w : World) (hb : 4 ≤ body.size) (hs : src.size ≤ 16) (hd : dst.size ≤ 16) : Calls Try.prog 35 #[.int .i64 5, .agg #[.int .i64 v, .string src, .string dst, .int .i64 proto, .int .i64 hops, .int .i64 cls, .int .i64 id, .int .i64 flags, .int .i64 off, .int .i64 label, .string opt, .string body]] w fun e w' => e = .returned (.string (src ++ dst ++ body.extract 0 4)) ∧ Below w.heap.size w w' := by
  obtain ⟨T, hT, eT⟩ : ∃ T : ByteArray, T.size ≤ 4 ∧ body.extract 0 4 = T := ⟨_, by rw [ByteArray.size_extract]; omega, rfl⟩
  rw [eT]
  go_enter Try.func35, Try.ntmps35
  go_wp2
  go_ret
  exact ⟨rfl, (Below.refl _ _).alloc (Nat.le_refl _) _⟩
theorem keyOf_6 (v : Int) (src dst : ByteArray) (proto hops cls id flags off label : Int) (opt body : ByteArray) (w : World) (hb : 4 ≤ body.size) (hs : src.size ≤ 16) (hd : dst.size ≤ 16) : Calls Try.prog 35 #[.int .i64 6, .agg #[.int .i64 v, .string src, .string dst, .int .i64 proto, .int .i64 hops, .int .i64 cls, .int .i64 id, .int .i64 flags, .int .i64 off, .int .i64 label, .string opt, .string body]] w fun e w' => e = .returned (.string (src ++ dst ++ body.extract 0 4)) ∧ Below w.heap.size w w' := by
  obtain ⟨T, hT, eT⟩ : ∃ T : ByteArray, T.size ≤ 4 ∧ body.extract 0 4 = T := ⟨_, by rw [ByteArray.size_extract]; omega, rfl⟩
  rw [eT]
  go_enter Try.func35, Try.ntmps35
  go_wp2
  go_ret
  exact ⟨rfl, (Below.refl _ _).alloc (Nat.le_refl _) _⟩
theorem keyOf_1 (v : Int) (src dst : ByteArray) (proto hops cls id flags off label : Int) (opt body : ByteArray) (w : World) (hs : src.size ≤ 16) (hd : dst.size ≤ 16) : Calls Try.prog 35 #[.int .i64 1, .agg #[.int .i64 v, .string src, .string dst, .int .i64 proto, .int .i64 hops, .int .i64 cls, .int .i64 id, .int .i64 flags, .int .i64 off, .int .i64 label, .string opt, .string body]] w fun e w' => e = .returned (.string (src ++ dst)) ∧ Below w.heap.size w w' := by
  have e0 : src ++ dst ++ (⟨#[]⟩ : ByteArray) = src ++ dst := ByteArray.append_empty
  go_enter Try.func35, Try.ntmps35
  go_wp2
  go_ret
  exact ⟨rfl, (Below.refl _ _).alloc (Nat.le_refl _) _⟩
theorem keyOf_4 (v : Int) (src dst : ByteArray) (proto hops cls id flags off label : Int) (opt body : ByteArray) (w : World) (hs : src.size ≤ 16) (hd : dst.size ≤ 16) : Calls Try.prog 35 #[.int .i64 4, .agg #[.int .i64 v, .string src, .string dst, .int .i64 proto, .int .i64 hops, .int .i64 cls, .int .i64 id, .int .i64 flags, .int .i64 off, .int .i64 label, .string opt, .string body]] w fun e w' => e = .returned (.string (src ++ dst)) ∧ Below w.heap.size w w' := by
  have e0 : src ++ dst ++ (⟨#[]⟩ : ByteArray) = src ++ dst := ByteArray.append_empty
  go_enter Try.func35, Try.ntmps35
  go_wp2
  go_ret
  exact ⟨rfl, (Below.refl _ _).alloc (Nat.le_refl _) _⟩
theorem first_any (s : ByteArray) (n : Nat) (w : World) : Calls Try.prog 54 #[.string s, .int .i64 n] w fun e w' => e = .returned (.string (s.extract 0 n)) ∧ w = w' := by
  by_cases h : n ≤ s.size
  · go_enter Try.func54, Try.ntmps54
    go_wp2
    go_ret
    exact ⟨rfl, rfl⟩
  · have e : s.extract 0 n = s := by
      apply ByteArray.ext
      rw [ByteArray.data_extract]
      have : s.data.size = s.size := rfl
      rw [Array.extract_eq_self_of_le (by omega)]
    rw [e]
    go_enter Try.func54, Try.ntmps54
    go_wp2
    go_ret
    exact ⟨rfl, rfl⟩
end Go.Proofs.Ytpjndjmneficbaa
