/-
  Flows: what the package flow answers.
-/
import Derived.Test.YtpelohmondhiiaaMf
import Derived.Test.YtpelohmondhiiaaMc
import Derived.Deep.QuietTactic
import Derived.BigQuiet
import Derived.Test.YtpelohmondhiiaaMd
import Derived.Test.YtpelohmondhiiaaMe
namespace Go.Proofs.Ytpelohmondhiiaa
open Go.RowKit

/-- A flow. -/
structure Fw where
  kind : Int
  key : ByteArray
def verV (t : Int) : Int := if t = 2048 then 4 else if t = 34525 then 6 else 0
theorem ver_any (t : Int) (w : World) : Calls Try.prog 23 #[.int .i64 t] w fun e w' => e = .returned (.int .i64 (verV t)) ∧ w = w' := by
  unfold verV
  by_cases h4 : t = 2048
  · subst h4
    go_enter Try.func23, Try.ntmps23
    go_wp2
    go_ret
    exact ⟨rfl, rfl⟩
  · rw [if_neg h4]
    have e4 : (t == 2048) = false := by simpa using h4
    by_cases h6 : t = 34525
    · subst h6
      go_enter Try.func23, Try.ntmps23
      go_wp2
      go_ret
      exact ⟨rfl, rfl⟩
    · rw [if_neg h6]
      have e6 : (t == 34525) = false := by simpa using h6
      go_enter Try.func23, Try.ntmps23
      go_wp2
      go_ret
      exact ⟨rfl, rfl⟩
def shB (flags off : Int) (body : ByteArray) : Bool := (off == 0) && (bits .and .i64 flags 1 == 0) && decide (4 ≤ (body.size : Int))
theorem sh_any (v : Int) (src dst : ByteArray) (proto hops cls id flags off label : Int) (opt body : ByteArray) (w : World) : Calls Try.prog 81 #[.agg #[.int .i64 v, .string src, .string dst, .int .i64 proto, .int .i64 hops, .int .i64 cls, .int .i64 id, .int .i64 flags, .int .i64 off, .int .i64 label, .string opt, .string body]] w fun e w' => e = .returned (.bool (shB flags off body)) ∧ Below w.heap.size w w' := by
  unfold shB
  generalize h0 : (off == 0) = b0
  generalize h1 : (bits .and .i64 flags 1 == 0) = b1
  cases b0
  · go_enter Try.func81, Try.ntmps81
    go_wp2
    go_ret
    exact ⟨rfl, (Below.refl _ _).alloc (Nat.le_refl _) _⟩
  cases b1
  · go_enter Try.func81, Try.ntmps81
    go_wp2
    go_ret
    exact ⟨rfl, (Below.refl _ _).alloc (Nat.le_refl _) _⟩
  · go_enter Try.func81, Try.ntmps81
    go_wp2
    go_ret
    exact ⟨rfl, (Below.refl _ _).alloc (Nat.le_refl _) _⟩
/-- the kind of those of one version -/
def chV (sh : Bool) (proto a b c : Int) : Int := if sh then (if proto = 6 then b else if proto = 17 then c else a) else a
set_option maxHeartbeats 1600000 in
theorem choose_any (v : Int) (src dst : ByteArray) (proto hops cls id flags off label : Int) (opt body : ByteArray) (x y z : Int) (w : World) : Calls Try.prog 50 #[.agg #[.int .i64 v, .string src, .string dst, .int .i64 proto, .int .i64 hops, .int .i64 cls, .int .i64 id, .int .i64 flags, .int .i64 off, .int .i64 label, .string opt, .string body], .int .i64 x, .int .i64 y, .int .i64 z] w fun e w' => e = .returned (.int .i64 (chV (shB flags off body) proto x y z)) ∧ Below w.heap.size w w' := by
  have A := fun W => sh_any v src dst proto hops cls id flags off label opt body W
  unfold chV
  generalize shB flags off body = k at *
  have HA := Lib.hid A
  clear A
  cases k
  · go_enter Try.func50, Try.ntmps50
    go_wp2_with fail
    refine (HA.out _).mono ?_
    rintro e w1 ⟨rfl, hq⟩
    have h1 := (Held.new w 35 #[.int .i64 v, .string src, .string dst, .int .i64 proto, .int .i64 hops, .int .i64 cls, .int .i64 id, .int .i64 flags, .int .i64 off, .int .i64 label, .string opt, .string body]).next hq
    clear hq
    go_wp2_with fail
    go_ret
    exact ⟨rfl, h1.below⟩
  · by_cases h6 : proto = 6
    · subst h6
      go_enter Try.func50, Try.ntmps50
      go_wp2_with fail
      refine (HA.out _).mono ?_
      rintro e w1 ⟨rfl, hq⟩
      have h1 := (Held.new w 35 #[.int .i64 v, .string src, .string dst, .int .i64 6, .int .i64 hops, .int .i64 cls, .int .i64 id, .int .i64 flags, .int .i64 off, .int .i64 label, .string opt, .string body]).next hq
      clear hq
      have c3 := h1.blk.cell 3
      go_wp2_with fail
      go_ret
      exact ⟨rfl, h1.below⟩
    · have e6 : (proto == 6) = false := by simpa using h6
      by_cases h17 : proto = 17
      · subst h17
        go_enter Try.func50, Try.ntmps50
        go_wp2_with fail
        refine (HA.out _).mono ?_
        rintro e w1 ⟨rfl, hq⟩
        have h1 := (Held.new w 35 #[.int .i64 v, .string src, .string dst, .int .i64 17, .int .i64 hops, .int .i64 cls, .int .i64 id, .int .i64 flags, .int .i64 off, .int .i64 label, .string opt, .string body]).next hq
        clear hq
        have c3 := h1.blk.cell 3
        go_wp2_with fail
        go_ret
        exact ⟨rfl, h1.below⟩
      · have e17 : (proto == 17) = false := by simpa using h17
        rw [if_neg h6, if_neg h17]
        go_enter Try.func50, Try.ntmps50
        go_wp2_with fail
        refine (HA.out _).mono ?_
        rintro e w1 ⟨rfl, hq⟩
        have h1 := (Held.new w 35 #[.int .i64 v, .string src, .string dst, .int .i64 proto, .int .i64 hops, .int .i64 cls, .int .i64 id, .int .i64 flags, .int .i64 off, .int .i64 label, .string opt, .string body]).next hq
        clear hq
        have c3 := h1.blk.cell 3
        go_wp2_with fail
        go_ret
        exact ⟨rfl, h1.below⟩
def kindV (p : Pk) : Int := if p.v = 4 then chV (shB p.flags p.off p.body) p.proto 1 2 3 else chV (shB p.flags p.off p.body) p.proto 4 5 6
theorem kindOf_walk (v : Int) (src dst : ByteArray) (proto hops cls id flags off label : Int) (opt body : ByteArray) (w : World) (n : Int) (hn : (if v = 4 then chV (shB flags off body) proto 1 2 3 else chV (shB flags off body) proto 4 5 6) = n) : Calls Try.prog 24 #[.agg #[.int .i64 v, .string src, .string dst, .int .i64 proto, .int .i64 hops, .int .i64 cls, .int .i64 id, .int .i64 flags, .int .i64 off, .int .i64 label, .string opt, .string body]] w fun e w' => e = .returned (.int .i64 n) ∧ Below w.heap.size w w' := by
  by_cases h4 : v = 4
  · rw [if_pos h4] at hn
    have A := fun W => choose_any v src dst proto hops cls id flags off label opt body 1 2 3 W
    rw [hn] at A
    subst h4
    have HA := Lib.hid A
    clear A hn
    go_enter Try.func24, Try.ntmps24
    go_wp2_with fail
    refine (HA.out _).mono ?_
    rintro e w1 ⟨rfl, hq⟩
    have h1 := (Held.new w 35 #[.int .i64 4, .string src, .string dst, .int .i64 proto, .int .i64 hops, .int .i64 cls, .int .i64 id, .int .i64 flags, .int .i64 off, .int .i64 label, .string opt, .string body]).next hq
    go_wp2_with fail
    go_ret
    exact ⟨rfl, h1.below⟩
  · rw [if_neg h4] at hn
    have A := fun W => choose_any v src dst proto hops cls id flags off label opt body 4 5 6 W
    rw [hn] at A
    have e4 : (v == 4) = false := by simpa using h4
    have HA := Lib.hid A
    clear A hn
    go_enter Try.func24, Try.ntmps24
    go_wp2_with fail
    refine (HA.out _).mono ?_
    rintro e w1 ⟨rfl, hq⟩
    have h1 := (Held.new w 35 #[.int .i64 v, .string src, .string dst, .int .i64 proto, .int .i64 hops, .int .i64 cls, .int .i64 id, .int .i64 flags, .int .i64 off, .int .i64 label, .string opt, .string body]).next hq
    go_wp2_with fail
    go_ret
    exact ⟨rfl, h1.below⟩
theorem keyOf_2 (v : Int) (src dst : ByteArray) (proto hops cls id flags off label : Int) (opt body : ByteArray) (w : World) (hb : 4 ≤ body.size) (hs : src.size ≤ 16) (hd : dst.size ≤ 16) : Calls Try.prog 25 #[.int .i64 2, .agg #[.int .i64 v, .string src, .string dst, .int .i64 proto, .int .i64 hops, .int .i64 cls, .int .i64 id, .int .i64 flags, .int .i64 off, .int .i64 label, .string opt, .string body]] w fun e w' => e = .returned (.string (src ++ dst ++ body.extract 0 4)) ∧ Below w.heap.size w w' := by
  obtain ⟨T, hT, eT⟩ : ∃ T : ByteArray, T.size ≤ 4 ∧ body.extract 0 4 = T := ⟨_, by rw [ByteArray.size_extract]; omega, rfl⟩
  rw [eT]
  go_enter Try.func25, Try.ntmps25
  go_wp2
  go_ret
  exact ⟨rfl, (Below.refl _ _).alloc (Nat.le_refl _) _⟩
theorem keyOf_3 (v : Int) (src dst : ByteArray) (proto hops cls id flags off label : Int) (opt body : ByteArray) (w : World) (hb : 4 ≤ body.size) (hs : src.size ≤ 16) (hd : dst.size ≤ 16) : Calls Try.prog 25 #[.int .i64 3, .agg #[.int .i64 v, .string src, .string dst, .int .i64 proto, .int .i64 hops, .int .i64 cls, .int .i64 id, .int .i64 flags, .int .i64 off, .int .i64 label, .string opt, .string body]] w fun e w' => e = .returned (.string (src ++ dst ++ body.extract 0 4)) ∧ Below w.heap.size w w' := by
  obtain ⟨T, hT, eT⟩ : ∃ T : ByteArray, T.size ≤ 4 ∧ body.extract 0 4 = T := ⟨_, by rw [ByteArray.size_extract]; omega, rfl⟩
  rw [eT]
  go_enter Try.func25, Try.ntmps25
  go_wp2
  go_ret
  exact ⟨rfl, (Below.refl _ _).alloc (Nat.le_refl _) _⟩
theorem keyOf_5 (v : Int) (src dst : ByteArray) (proto hops cls id flags off label : Int) (opt body : ByteArray) (w : World) (hb : 4 ≤ body.size) (hs : src.size ≤ 16) (hd : dst.size ≤ 16) : Calls Try.prog 25 #[.int .i64 5, .agg #[.int .i64 v, .string src, .string dst, .int .i64 proto, .int .i64 hops, .int .i64 cls, .int .i64 id, .int .i64 flags, .int .i64 off, .int .i64 label, .string opt, .string body]] w fun e w' => e = .returned (.string (src ++ dst ++ body.extract 0 4)) ∧ Below w.heap.size w w' := by
  obtain ⟨T, hT, eT⟩ : ∃ T : ByteArray, T.size ≤ 4 ∧ body.extract 0 4 = T := ⟨_, by rw [ByteArray.size_extract]; omega, rfl⟩
  rw [eT]
  go_enter Try.func25, Try.ntmps25
  go_wp2
  go_ret
  exact ⟨rfl, (Below.refl _ _).alloc (Nat.le_refl _) _⟩
theorem keyOf_6 (v : Int) (src dst : ByteArray) (proto hops cls id flags off label : Int) (opt body : ByteArray) (w : World) (hb : 4 ≤ body.size) (hs : src.size ≤ 16) (hd : dst.size ≤ 16) : Calls Try.prog 25 #[.int .i64 6, .agg #[.int .i64 v, .string src, .string dst, .int .i64 proto, .int .i64 hops, .int .i64 cls, .int .i64 id, .int .i64 flags, .int .i64 off, .int .i64 label, .string opt, .string body]] w fun e w' => e = .returned (.string (src ++ dst ++ body.extract 0 4)) ∧ Below w.heap.size w w' := by
  obtain ⟨T, hT, eT⟩ : ∃ T : ByteArray, T.size ≤ 4 ∧ body.extract 0 4 = T := ⟨_, by rw [ByteArray.size_extract]; omega, rfl⟩
  rw [eT]
  go_enter Try.func25, Try.ntmps25
  go_wp2
  go_ret
  exact ⟨rfl, (Below.refl _ _).alloc (Nat.le_refl _) _⟩
theorem keyOf_1 (v : Int) (src dst : ByteArray) (proto hops cls id flags off label : Int) (opt body : ByteArray) (w : World) (hs : src.size ≤ 16) (hd : dst.size ≤ 16) : Calls Try.prog 25 #[.int .i64 1, .agg #[.int .i64 v, .string src, .string dst, .int .i64 proto, .int .i64 hops, .int .i64 cls, .int .i64 id, .int .i64 flags, .int .i64 off, .int .i64 label, .string opt, .string body]] w fun e w' => e = .returned (.string (src ++ dst)) ∧ Below w.heap.size w w' := by
  have e0 : src ++ dst ++ (⟨#[]⟩ : ByteArray) = src ++ dst := ByteArray.append_empty
  go_enter Try.func25, Try.ntmps25
  go_wp2
  go_ret
  exact ⟨rfl, (Below.refl _ _).alloc (Nat.le_refl _) _⟩
theorem keyOf_4 (v : Int) (src dst : ByteArray) (proto hops cls id flags off label : Int) (opt body : ByteArray) (w : World) (hs : src.size ≤ 16) (hd : dst.size ≤ 16) : Calls Try.prog 25 #[.int .i64 4, .agg #[.int .i64 v, .string src, .string dst, .int .i64 proto, .int .i64 hops, .int .i64 cls, .int .i64 id, .int .i64 flags, .int .i64 off, .int .i64 label, .string opt, .string body]] w fun e w' => e = .returned (.string (src ++ dst)) ∧ Below w.heap.size w w' := by
  have e0 : src ++ dst ++ (⟨#[]⟩ : ByteArray) = src ++ dst := ByteArray.append_empty
  go_enter Try.func25, Try.ntmps25
  go_wp2
  go_ret
  exact ⟨rfl, (Below.refl _ _).alloc (Nat.le_refl _) _⟩
theorem first_any (s : ByteArray) (n : Nat) (w : World) : Calls Try.prog 31 #[.string s, .int .i64 n] w fun e w' => e = .returned (.string (s.extract 0 n)) ∧ w = w' := by
  by_cases h : n ≤ s.size
  · go_enter Try.func31, Try.ntmps31
    go_wp2
    go_ret
    exact ⟨rfl, rfl⟩
  · have e : s.extract 0 n = s := by
      apply ByteArray.ext
      rw [ByteArray.data_extract]
      have : s.data.size = s.size := rfl
      rw [Array.extract_eq_self_of_le (by omega)]
    rw [e]
    go_enter Try.func31, Try.ntmps31
    go_wp2
    go_ret
    exact ⟨rfl, rfl⟩
end Go.Proofs.Ytpelohmondhiiaa
namespace Go.Proofs.Ytpelohmondhiiaa
open Go.RowKit

def lessV (f : Fw) : Fw := if f.kind = 2 ∨ f.kind = 3 then ⟨1, f.key.extract 0 8⟩ else if f.kind = 5 ∨ f.kind = 6 then ⟨4, f.key.extract 0 32⟩ else f
set_option maxHeartbeats 1600000 in
theorem less_any (f : Fw) (w : World) : Calls Try.prog 14 #[.agg #[.int .i64 f.kind, .string f.key]] w fun e w' => e = .returned (.agg #[.int .i64 (lessV f).kind, .string (lessV f).key]) ∧ Below w.heap.size w w' := by
  obtain ⟨k, x⟩ := f
  unfold lessV
  have F8 : ∀ W, Calls Try.prog 31 #[.string x, .int .i64 8] W fun e w' => e = .returned (.string (x.extract 0 8)) ∧ W = w' := fun W => first_any x 8 W
  have F32 : ∀ W, Calls Try.prog 31 #[.string x, .int .i64 32] W fun e w' => e = .returned (.string (x.extract 0 32)) ∧ W = w' := fun W => first_any x 32 W
  generalize x.extract 0 8 = X8 at *
  generalize x.extract 0 32 = X32 at *
  have HF8 := Lib.hid F8
  have HF32 := Lib.hid F32
  clear F8 F32
  simp only
  by_cases h2 : k = 2
  · subst h2
    rw [if_pos (.inl rfl)]
    go_enter Try.func14, Try.ntmps14
    go_wp2_with (go_at_call 31; (with_reducible refine (HF8.out _).mono ?_); rintro e w' ⟨rfl, rfl⟩)
    exact bodyPost_ret (v := .agg #[.int .i64 1, .string X8]) (by simp [results, Try.results14, go_sem]) rfl ⟨rfl, ((Below.refl _ _).alloc (Nat.le_refl _) _).alloc (by simp) _⟩
  by_cases h3 : k = 3
  · subst h3
    rw [if_pos (.inr rfl)]
    go_enter Try.func14, Try.ntmps14
    go_wp2_with (go_at_call 31; (with_reducible refine (HF8.out _).mono ?_); rintro e w' ⟨rfl, rfl⟩)
    exact bodyPost_ret (v := .agg #[.int .i64 1, .string X8]) (by simp [results, Try.results14, go_sem]) rfl ⟨rfl, ((Below.refl _ _).alloc (Nat.le_refl _) _).alloc (by simp) _⟩
  by_cases h5 : k = 5
  · subst h5
    rw [if_neg (by omega), if_pos (.inl rfl)]
    go_enter Try.func14, Try.ntmps14
    go_wp2_with (go_at_call 31; (with_reducible refine (HF32.out _).mono ?_); rintro e w' ⟨rfl, rfl⟩)
    exact bodyPost_ret (v := .agg #[.int .i64 4, .string X32]) (by simp [results, Try.results14, go_sem]) rfl ⟨rfl, ((Below.refl _ _).alloc (Nat.le_refl _) _).alloc (by simp) _⟩
  by_cases h6 : k = 6
  · subst h6
    rw [if_neg (by omega), if_pos (.inr rfl)]
    go_enter Try.func14, Try.ntmps14
    go_wp2_with (go_at_call 31; (with_reducible refine (HF32.out _).mono ?_); rintro e w' ⟨rfl, rfl⟩)
    exact bodyPost_ret (v := .agg #[.int .i64 4, .string X32]) (by simp [results, Try.results14, go_sem]) rfl ⟨rfl, ((Below.refl _ _).alloc (Nat.le_refl _) _).alloc (by simp) _⟩
  rw [if_neg (by omega), if_neg (by omega)]
  have e2 : (k == 2) = false := by simpa using h2
  have e3 : (k == 3) = false := by simpa using h3
  have e5 : (k == 5) = false := by simpa using h5
  have e6 : (k == 6) = false := by simpa using h6
  go_enter Try.func14, Try.ntmps14
  go_wp2_with fail
  exact bodyPost_ret (v := .agg #[.int .i64 k, .string x]) (by simp [results, Try.results14, go_sem]) rfl ⟨rfl, ((Below.refl _ _).alloc (Nat.le_refl _) _).alloc (by simp) _⟩
theorem flowHash_any (key : ByteArray) (f : Fw) (w : World) : Calls Try.prog 12 #[.string key, .agg #[.int .i64 f.kind, .string f.key]] w fun e w' => e = .returned (hashE key f.key) ∧ Below w.heap.size w w' := by
  have A := fun W => hash_any key f.key W
  obtain ⟨k, x⟩ := f
  have hE : ∃ a b : Value, hashE key x = .tuple #[a, b] := by unfold hashE; split <;> exact ⟨_, _, rfl⟩
  obtain ⟨a, b, hE⟩ := hE
  simp only at A ⊢
  rw [hE] at A ⊢
  have HA := Lib.hid A
  clear A hE
  go_enter Try.func12, Try.ntmps12
  go_wp2_with fail
  refine (HA.out _).mono ?_
  rintro e w1 ⟨rfl, hq⟩
  have h1 := (Held.new w 24 #[.int .i64 k, .string x]).next hq
  go_wp2_with fail
  go_ret2
  exact ⟨rfl, h1.below⟩
end Go.Proofs.Ytpelohmondhiiaa
namespace Go.Proofs.Ytpelohmondhiiaa
open Go.RowKit

def OfIs (w : World) (n : Int) (x : ByteArray) (e : Ending) (w' : World) : Prop := e = .returned (.agg #[.int .i64 n, .string x]) ∧ Below w.heap.size w w'
set_option maxRecDepth 100000 in
set_option maxHeartbeats 1600000 in
theorem of_bad (s : ByteArray) (w : World) (E : Int) (d r : ByteArray) (vl pr ty : Int) (b : ByteArray) (hE : (E != 0) = true)
    (A : ∀ W, Calls Try.prog 21 #[.string s] W fun e w' => e = .returned (.tuple #[.agg #[.string d, .string r, .int .i64 vl, .int .i64 pr, .int .i64 ty, .string b], .int .i64 E]) ∧ Below W.heap.size W w') : Calls Try.prog 10 #[.string s] w (OfIs w 0 ⟨#[]⟩) := by
  have HA := Lib.hid A
  clear A
  go_enter Try.func10, Try.ntmps10
  go_wp2_with fail
  refine (HA.out _).mono ?_
  rintro e w1 ⟨rfl, hq⟩
  have hS := (Held.new w 24 #[.int .i64 0, .string ⟨#[]⟩]).next hq
  obtain ⟨r0, r1⟩ : w1.cell? ⟨w.heap.size, 0, none⟩ = some (.int .i64 0) ∧ w1.cell? ⟨w.heap.size, 1, none⟩ = some (.string ⟨#[]⟩) := ⟨hS.blk.cell 0, hS.blk.cell 1⟩
  have fr := hS.blk.frozen
  have hz := hS.blk.lt
  have hB := hS.below
  have hB2 := hB
  have hne : w.heap.size ≠ w1.heap.size := by omega
  clear hS hq
  go_wp2_with fail
  refine bodyPost_ret (v := .agg #[.int .i64 0, .string ⟨#[]⟩]) (by simp [results, Try.results10, go_sem, r0, r1, hz]) rfl ⟨rfl, ?_⟩
  (with_reducible (repeat' (first | exact hB | exact hB2 | exact Below.refl _ _ | refine below_drewN ?_ _ | refine Below.drew ?_ | refine Below.alloc ?_ (by first | (simp; done) | (simp; omega) | omega) _ | refine Below.setCell ?_ (by first | (simp; done) | (simp; omega) | omega) _)))
set_option maxRecDepth 100000 in
set_option maxHeartbeats 1600000 in
theorem of_noip (s : ByteArray) (w : World) (E : Int) (d r : ByteArray) (vl pr ty : Int) (b : ByteArray) (v : Int) (src dst : ByteArray) (proto hops cls id flags off label : Int) (opt body : ByteArray) (hE : (E != 0) = true)
    (A : ∀ W, Calls Try.prog 21 #[.string s] W fun e w' => e = .returned (.tuple #[.agg #[.string d, .string r, .int .i64 vl, .int .i64 pr, .int .i64 ty, .string b], .int .i64 0]) ∧ Below W.heap.size W w')
    (AI : ∀ W, Calls Try.prog 22 #[.string b] W fun e w' => e = .returned (.tuple #[.agg #[.int .i64 v, .string src, .string dst, .int .i64 proto, .int .i64 hops, .int .i64 cls, .int .i64 id, .int .i64 flags, .int .i64 off, .int .i64 label, .string opt, .string body], .int .i64 E]) ∧ Below W.heap.size W w') : Calls Try.prog 10 #[.string s] w (OfIs w 0 ⟨#[]⟩) := by
  have HA := Lib.hid A
  have HI := Lib.hid AI
  clear A AI
  go_enter Try.func10, Try.ntmps10
  go_wp2_with fail
  refine (HA.out _).mono ?_
  rintro e w1 ⟨rfl, hq⟩
  have hS := (Held.new w 24 #[.int .i64 0, .string ⟨#[]⟩]).next hq
  clear hq
  go_wp2_with fail
  refine (HI.out _).mono ?_
  rintro e w2 ⟨rfl, hq⟩
  have hz1 := hS.blk.lt
  have hS2 : Held w 24 #[.int .i64 0, .string ⟨#[]⟩] w2 := ⟨(hS.blk.alloc _).same (hq.block _ (by simp; omega)), (hS.below.alloc (by omega) _).trans (hq.mono (by simp; omega))⟩
  have hF2 : Blk w2 w1.heap.size 48 #[.string d, .string r, .int .i64 vl, .int .i64 pr, .int .i64 ty, .string b] := (Blk.new w1 48 _).same (hq.block _ (by simp))
  clear hq hS
  obtain ⟨r0, r1⟩ : w2.cell? ⟨w.heap.size, 0, none⟩ = some (.int .i64 0) ∧ w2.cell? ⟨w.heap.size, 1, none⟩ = some (.string ⟨#[]⟩) := ⟨hS2.blk.cell 0, hS2.blk.cell 1⟩
  have fr := hS2.blk.frozen
  have hz := hS2.blk.lt
  have hB := hS2.below
  have hB2 := hB
  have hne : w.heap.size ≠ w2.heap.size := by omega
  have f4 : w2.cell? ⟨w1.heap.size, 4, none⟩ = some (.int .i64 ty) := hF2.cell 4
  have hzf := hF2.lt
  have hne2 : w1.heap.size ≠ w2.heap.size := by omega
  go_wp2_with fail
  go_quiet ((go_at_call 23; exact quiet_left (ver_any _ _)))
  go_wp2_with fail
  refine bodyPost_ret (v := .agg #[.int .i64 0, .string ⟨#[]⟩]) (by simp [results, Try.results10, go_sem, r0, r1, hz]) rfl ⟨rfl, ?_⟩
  (with_reducible (repeat' (first | exact hB | exact hB2 | exact Below.refl _ _ | refine below_drewN ?_ _ | refine Below.drew ?_ | refine Below.alloc ?_ (by first | (simp; done) | (simp; omega) | omega) _ | refine Below.setCell ?_ (by first | (simp; done) | (simp; omega) | omega) _)))
set_option maxRecDepth 100000 in
set_option maxHeartbeats 1600000 in
theorem of_ver (s : ByteArray) (w : World) (d r : ByteArray) (vl pr ty : Int) (b : ByteArray) (v : Int) (src dst : ByteArray) (proto hops cls id flags off label : Int) (opt body : ByteArray) (hV : (v != verV ty) = true)
    (A : ∀ W, Calls Try.prog 21 #[.string s] W fun e w' => e = .returned (.tuple #[.agg #[.string d, .string r, .int .i64 vl, .int .i64 pr, .int .i64 ty, .string b], .int .i64 0]) ∧ Below W.heap.size W w')
    (AI : ∀ W, Calls Try.prog 22 #[.string b] W fun e w' => e = .returned (.tuple #[.agg #[.int .i64 v, .string src, .string dst, .int .i64 proto, .int .i64 hops, .int .i64 cls, .int .i64 id, .int .i64 flags, .int .i64 off, .int .i64 label, .string opt, .string body], .int .i64 0]) ∧ Below W.heap.size W w') : Calls Try.prog 10 #[.string s] w (OfIs w 0 ⟨#[]⟩) := by
  have HA := Lib.hid A
  have HI := Lib.hid AI
  clear A AI
  go_enter Try.func10, Try.ntmps10
  go_wp2_with fail
  refine (HA.out _).mono ?_
  rintro e w1 ⟨rfl, hq⟩
  have hS := (Held.new w 24 #[.int .i64 0, .string ⟨#[]⟩]).next hq
  clear hq
  go_wp2_with fail
  refine (HI.out _).mono ?_
  rintro e w2 ⟨rfl, hq⟩
  have hz1 := hS.blk.lt
  have hS2 : Held w 24 #[.int .i64 0, .string ⟨#[]⟩] w2 := ⟨(hS.blk.alloc _).same (hq.block _ (by simp; omega)), (hS.below.alloc (by omega) _).trans (hq.mono (by simp; omega))⟩
  have hF2 : Blk w2 w1.heap.size 48 #[.string d, .string r, .int .i64 vl, .int .i64 pr, .int .i64 ty, .string b] := (Blk.new w1 48 _).same (hq.block _ (by simp))
  clear hq hS
  obtain ⟨r0, r1⟩ : w2.cell? ⟨w.heap.size, 0, none⟩ = some (.int .i64 0) ∧ w2.cell? ⟨w.heap.size, 1, none⟩ = some (.string ⟨#[]⟩) := ⟨hS2.blk.cell 0, hS2.blk.cell 1⟩
  have fr := hS2.blk.frozen
  have hz := hS2.blk.lt
  have hB := hS2.below
  have hB2 := hB
  have hne : w.heap.size ≠ w2.heap.size := by omega
  have f4 : w2.cell? ⟨w1.heap.size, 4, none⟩ = some (.int .i64 ty) := hF2.cell 4
  have hzf := hF2.lt
  have hne2 : w1.heap.size ≠ w2.heap.size := by omega
  go_wp2_with fail
  go_quiet ((go_at_call 23; exact quiet_left (ver_any _ _)))
  go_wp2_with fail
  refine bodyPost_ret (v := .agg #[.int .i64 0, .string ⟨#[]⟩]) (by simp [results, Try.results10, go_sem, r0, r1, hz]) rfl ⟨rfl, ?_⟩
  (with_reducible (repeat' (first | exact hB | exact hB2 | exact Below.refl _ _ | refine below_drewN ?_ _ | refine Below.drew ?_ | refine Below.alloc ?_ (by first | (simp; done) | (simp; omega) | omega) _ | refine Below.setCell ?_ (by first | (simp; done) | (simp; omega) | omega) _)))
set_option maxRecDepth 100000 in
set_option maxHeartbeats 1600000 in
theorem of_good (s : ByteArray) (w : World) (d r : ByteArray) (vl pr ty : Int) (b : ByteArray) (v : Int) (src dst : ByteArray) (proto hops cls id flags off label : Int) (opt body : ByteArray) (K : Int) (X : ByteArray) (hV : (v != verV ty) = false)
    (A : ∀ W, Calls Try.prog 21 #[.string s] W fun e w' => e = .returned (.tuple #[.agg #[.string d, .string r, .int .i64 vl, .int .i64 pr, .int .i64 ty, .string b], .int .i64 0]) ∧ Below W.heap.size W w')
    (AI : ∀ W, Calls Try.prog 22 #[.string b] W fun e w' => e = .returned (.tuple #[.agg #[.int .i64 v, .string src, .string dst, .int .i64 proto, .int .i64 hops, .int .i64 cls, .int .i64 id, .int .i64 flags, .int .i64 off, .int .i64 label, .string opt, .string body], .int .i64 0]) ∧ Below W.heap.size W w')
    (AK : ∀ W, Calls Try.prog 24 #[.agg #[.int .i64 v, .string src, .string dst, .int .i64 proto, .int .i64 hops, .int .i64 cls, .int .i64 id, .int .i64 flags, .int .i64 off, .int .i64 label, .string opt, .string body]] W fun e w' => e = .returned (.int .i64 K) ∧ Below W.heap.size W w')
    (AX : ∀ W, Calls Try.prog 25 #[.int .i64 K, .agg #[.int .i64 v, .string src, .string dst, .int .i64 proto, .int .i64 hops, .int .i64 cls, .int .i64 id, .int .i64 flags, .int .i64 off, .int .i64 label, .string opt, .string body]] W fun e w' => e = .returned (.string X) ∧ Below W.heap.size W w') : Calls Try.prog 10 #[.string s] w (OfIs w K X) := by
  have HK := Lib.hid AK
  have HX := Lib.hid AX
  clear AK AX
  have HA := Lib.hid A
  have HI := Lib.hid AI
  clear A AI
  go_enter Try.func10, Try.ntmps10
  go_wp2_with fail
  refine (HA.out _).mono ?_
  rintro e w1 ⟨rfl, hq⟩
  have hS := (Held.new w 24 #[.int .i64 0, .string ⟨#[]⟩]).next hq
  clear hq
  go_wp2_with fail
  refine (HI.out _).mono ?_
  rintro e w2 ⟨rfl, hq⟩
  have hz1 := hS.blk.lt
  have hS2 : Held w 24 #[.int .i64 0, .string ⟨#[]⟩] w2 := ⟨(hS.blk.alloc _).same (hq.block _ (by simp; omega)), (hS.below.alloc (by omega) _).trans (hq.mono (by simp; omega))⟩
  have hF2 : Blk w2 w1.heap.size 48 #[.string d, .string r, .int .i64 vl, .int .i64 pr, .int .i64 ty, .string b] := (Blk.new w1 48 _).same (hq.block _ (by simp))
  clear hq hS
  obtain ⟨r0, r1⟩ : w2.cell? ⟨w.heap.size, 0, none⟩ = some (.int .i64 0) ∧ w2.cell? ⟨w.heap.size, 1, none⟩ = some (.string ⟨#[]⟩) := ⟨hS2.blk.cell 0, hS2.blk.cell 1⟩
  have fr := hS2.blk.frozen
  have hz := hS2.blk.lt
  have hB := hS2.below
  have hB2 := hB
  have hne : w.heap.size ≠ w2.heap.size := by omega
  have f4 : w2.cell? ⟨w1.heap.size, 4, none⟩ = some (.int .i64 ty) := hF2.cell 4
  have hzf := hF2.lt
  have hne2 : w1.heap.size ≠ w2.heap.size := by omega
  go_wp2_with fail
  go_quiet ((go_at_call 23; exact quiet_left (ver_any _ _)))
  go_wp2_with fail
  refine (HK.out _).mono ?_
  rintro e w3 ⟨rfl, hq⟩
  have hP : Blk w3 w2.heap.size 35 #[.int .i64 v, .string src, .string dst, .int .i64 proto, .int .i64 hops, .int .i64 cls, .int .i64 id, .int .i64 flags, .int .i64 off, .int .i64 label, .string opt, .string body] := (Blk.new w2 35 _).same (hq.block w2.heap.size (by show w2.heap.size < (w2.alloc _).heap.size; simp))
  have hS3 : Held w 24 #[.int .i64 0, .string ⟨#[]⟩] w3 := ⟨(hS2.blk.alloc _).same (hq.block w.heap.size (by show w.heap.size < (w2.alloc _).heap.size; simp; omega)), (below_drewN (hS2.below.alloc (by omega) _) nq).trans (hq.mono (by show w.heap.size ≤ (w2.alloc _).heap.size; simp; omega))⟩
  clear hq hS2 hF2 r0 r1 fr hB hB2 f4
  have c0 := hP.cell 0
  have c1 := hP.cell 1
  have c2 := hP.cell 2
  have c3 := hP.cell 3
  have c4 := hP.cell 4
  have c5 := hP.cell 5
  have c6 := hP.cell 6
  have c7 := hP.cell 7
  have c8 := hP.cell 8
  have c9 := hP.cell 9
  have c10 := hP.cell 10
  have c11 := hP.cell 11
  simp only [List.getElem?_toArray, List.getElem?_cons_zero, List.getElem?_cons_succ] at c0 c1 c2 c3 c4 c5 c6 c7 c8 c9 c10 c11
  go_wp2_with fail
  refine (HX.out _).mono ?_
  rintro e w4 ⟨rfl, hq⟩
  have hS4 := hS3.next hq
  obtain ⟨r0, r1⟩ : w4.cell? ⟨w.heap.size, 0, none⟩ = some (.int .i64 0) ∧ w4.cell? ⟨w.heap.size, 1, none⟩ = some (.string ⟨#[]⟩) := ⟨hS4.blk.cell 0, hS4.blk.cell 1⟩
  have fr := hS4.blk.frozen
  have hz4 := hS4.blk.lt
  have hB := hS4.below
  have hB2 := hB
  go_wp2_with fail
  refine bodyPost_ret (v := .agg #[.int .i64 K, .string X]) (by simp [results, Try.results10, go_sem, r0, r1]) rfl ⟨rfl, ?_⟩
  (with_reducible (repeat' (first | exact hB | exact hB2 | exact Below.refl _ _ | refine below_drewN ?_ _ | refine Below.drew ?_ | refine Below.alloc ?_ (by first | (simp; done) | (simp; omega) | omega) _ | refine Below.setCell ?_ (by first | (simp; done) | (simp; omega) | omega) _)))
end Go.Proofs.Ytpelohmondhiiaa
namespace Go.Proofs.Ytpelohmondhiiaa
open Go.RowKit

def keyV (p : Pk) : ByteArray := if kindV p = 1 ∨ kindV p = 4 then p.src ++ p.dst else p.src ++ p.dst ++ p.body.extract 0 4
def ofOk (s : ByteArray) : Prop := parseE s = 0 ∧ ipE (parseF s).b = 0 ∧ (ipP (parseF s).b).v = verV (parseF s).t
instance (s : ByteArray) : Decidable (ofOk s) := by unfold ofOk; exact inferInstance
def ofV (s : ByteArray) : Fw := if ofOk s then ⟨kindV (ipP (parseF s).b), keyV (ipP (parseF s).b)⟩ else ⟨0, ⟨#[]⟩⟩
theorem chV_cases (sh : Bool) (proto a b c : Int) : chV sh proto a b c = a ∨ (sh = true ∧ chV sh proto a b c = b) ∨ (sh = true ∧ chV sh proto a b c = c) := by
  unfold chV
  cases sh
  · exact .inl rfl
  · simp only [if_true]
    split
    · simp
    · split
      · simp
      · simp
theorem kindV_cases (p : Pk) : kindV p = 1 ∨ kindV p = 4 ∨ (shB p.flags p.off p.body = true ∧ (kindV p = 2 ∨ kindV p = 3 ∨ kindV p = 5 ∨ kindV p = 6)) := by
  unfold kindV
  split
  · rcases chV_cases (shB p.flags p.off p.body) p.proto 1 2 3 with h | ⟨k, h⟩ | ⟨k, h⟩ <;> rw [h] <;> simp_all
  · rcases chV_cases (shB p.flags p.off p.body) p.proto 4 5 6 with h | ⟨k, h⟩ | ⟨k, h⟩ <;> rw [h] <;> simp_all
theorem shB_body {flags off : Int} {body : ByteArray} (h : shB flags off body = true) : 4 ≤ body.size := by
  simp only [shB, Bool.and_eq_true, decide_eq_true_eq] at h
  omega
theorem keyOf_any (p : Pk) (w : World) (hs : p.src.size ≤ 16) (hd : p.dst.size ≤ 16) : Calls Try.prog 25 #[.int .i64 (kindV p), .agg #[.int .i64 p.v, .string p.src, .string p.dst, .int .i64 p.proto, .int .i64 p.hops, .int .i64 p.cls, .int .i64 p.id, .int .i64 p.flags, .int .i64 p.off, .int .i64 p.label, .string p.opt, .string p.body]] w fun e w' => e = .returned (.string (keyV p)) ∧ Below w.heap.size w w' := by
  unfold keyV
  rcases kindV_cases p with h | h | ⟨k, h | h | h | h⟩
  · rw [h, if_pos (.inl rfl)]; exact keyOf_1 _ _ _ _ _ _ _ _ _ _ _ _ w hs hd
  · rw [h, if_pos (.inr rfl)]; exact keyOf_4 _ _ _ _ _ _ _ _ _ _ _ _ w hs hd
  · rw [h, if_neg (by decide)]; exact keyOf_2 _ _ _ _ _ _ _ _ _ _ _ _ w (shB_body k) hs hd
  · rw [h, if_neg (by decide)]; exact keyOf_3 _ _ _ _ _ _ _ _ _ _ _ _ w (shB_body k) hs hd
  · rw [h, if_neg (by decide)]; exact keyOf_5 _ _ _ _ _ _ _ _ _ _ _ _ w (shB_body k) hs hd
  · rw [h, if_neg (by decide)]; exact keyOf_6 _ _ _ _ _ _ _ _ _ _ _ _ w (shB_body k) hs hd
theorem ipP_addr (s : ByteArray) : (ipP s).src.size ≤ 16 ∧ (ipP s).dst.size ≤ 16 := by
  unfold ipP
  split
  · split
    · simp only [pk4, ByteArray.size_extract]; omega
    · simp only [pk6, ByteArray.size_extract]; omega
  · exact ⟨by decide, by decide⟩
theorem of_any (s : ByteArray) (w : World) : Calls Try.prog 10 #[.string s] w (OfIs w (ofV s).kind (ofV s).key) := by
  have A := fun W => parse_any s W
  rcases hf : parseF s with ⟨d, r, vl, pr, ty, b⟩
  by_cases h1 : parseE s = 0
  · have hb : (parseF s).b.size ≤ 281474976710656 := Nat.le_trans (parse_b h1) (by decide)
    have AI := fun W => parseI_any (parseF s).b W hb
    rw [h1] at A
    by_cases h2 : ipE (parseF s).b = 0
    · rw [h2] at AI
      by_cases h3 : (ipP (parseF s).b).v = verV (parseF s).t
      · have e : ofV s = ⟨kindV (ipP (parseF s).b), keyV (ipP (parseF s).b)⟩ := by rw [ofV, if_pos ⟨h1, h2, h3⟩]
        rw [e]
        refine of_good s w _ _ _ _ _ _ _ _ _ _ _ _ _ _ _ _ _ _ _ _ ?_ A AI (fun W => kindOf_walk _ _ _ _ _ _ _ _ _ _ _ _ W _ rfl) (fun W => keyOf_any _ W (ipP_addr _).1 (ipP_addr _).2)
        simp [h3]
      · have e : ofV s = ⟨0, ⟨#[]⟩⟩ := by rw [ofV, if_neg (fun h => h3 h.2.2)]
        rw [e]
        refine of_ver s w _ _ _ _ _ _ _ _ _ _ _ _ _ _ _ _ _ _ ?_ A AI
        simpa using h3
    · have e : ofV s = ⟨0, ⟨#[]⟩⟩ := by rw [ofV, if_neg (fun h => h2 h.2.1)]
      rw [e]
      exact of_noip s w _ _ _ _ _ _ _ _ _ _ _ _ _ _ _ _ _ _ _ (by simpa using h2) A AI
  · have e : ofV s = ⟨0, ⟨#[]⟩⟩ := by rw [ofV, if_neg (fun h => h1 h.1)]
    rw [e]
    exact of_bad s w _ _ _ _ _ _ _ (by simpa using h1) A
end Go.Proofs.Ytpelohmondhiiaa
