/-
  What the document's small functions of segments answer.
-/
import Derived.Test.YtalkpllmcigjnaaMa
import Derived.Test.YtalkpllmcigjnaaMh
import Derived.Test.YtalkpllmcigjnaaMg
import Derived.Test.YtalkpllmcigjnaaMe
namespace Go.Proofs.Ytalkpllmcigjnaa
open Go.RowKit

theorem rput98_2 (v : Int) (w : World) (h0 : 0 ≤ v) (h1 : v < 65536) :
    Calls Try.prog 98 #[.int .i64 v, .int .i64 2] w fun e w' => e = .returned (.string (bs v 2)) ∧ Below w.heap.size w w' := by
  have P : ∀ W, Calls Try.prog 80 #[.int .u64 v, .int .i64 2, .bool true] W fun e w' => e = .returned (.tuple #[.string (bs v 2), .int .i64 0]) ∧ Below W.heap.size W w' := by
    intro W
    have hp : 1 ≤ (2 : Int) ∧ (2 : Int) ≤ 8 ∧ v < 256 ^ (2 : Int).toNat := ⟨by omega, by omega, by show v < 65536; omega⟩
    have e1 : putE v 2 = 0 := by rw [putE, if_pos hp]
    have e2 : putS v 2 true = bs v 2 := by rw [putS, if_pos hp]; rfl
    have := putr_any v 2 true W h0 (by omega)
    rw [e1, e2] at this
    exact this
  have HP := Lib.hid P
  clear P
  generalize bs v 2 = T at *
  go_enter Try.func98, Try.ntmps98
  go_wp2_with (go_at_call 80; (with_reducible refine (HP.out _).mono ?_); rintro e w' ⟨rfl, hb⟩)
  go_ret
  exact ⟨rfl, hb⟩
theorem rput82_1 (v : Int) (w : World) (h0 : 0 ≤ v) (h1 : v < 256) :
    Calls Try.prog 82 #[.int .i64 v, .int .i64 1] w fun e w' => e = .returned (.string (bs v 1)) ∧ Below w.heap.size w w' := by
  have P : ∀ W, Calls Try.prog 80 #[.int .u64 v, .int .i64 1, .bool true] W fun e w' => e = .returned (.tuple #[.string (bs v 1), .int .i64 0]) ∧ Below W.heap.size W w' := by
    intro W
    have hp : 1 ≤ (1 : Int) ∧ (1 : Int) ≤ 8 ∧ v < 256 ^ (1 : Int).toNat := ⟨by omega, by omega, by show v < 256; omega⟩
    have e1 : putE v 1 = 0 := by rw [putE, if_pos hp]
    have e2 : putS v 1 true = bs v 1 := by rw [putS, if_pos hp]; rfl
    have := putr_any v 1 true W h0 (by omega)
    rw [e1, e2] at this
    exact this
  have HP := Lib.hid P
  clear P
  generalize bs v 1 = T at *
  go_enter Try.func82, Try.ntmps82
  go_wp2_with (go_at_call 80; (with_reducible refine (HP.out _).mono ?_); rintro e w' ⟨rfl, hb⟩)
  go_ret
  exact ⟨rfl, hb⟩
theorem rput82_2 (v : Int) (w : World) (h0 : 0 ≤ v) (h1 : v < 65536) :
    Calls Try.prog 82 #[.int .i64 v, .int .i64 2] w fun e w' => e = .returned (.string (bs v 2)) ∧ Below w.heap.size w w' := by
  have P : ∀ W, Calls Try.prog 80 #[.int .u64 v, .int .i64 2, .bool true] W fun e w' => e = .returned (.tuple #[.string (bs v 2), .int .i64 0]) ∧ Below W.heap.size W w' := by
    intro W
    have hp : 1 ≤ (2 : Int) ∧ (2 : Int) ≤ 8 ∧ v < 256 ^ (2 : Int).toNat := ⟨by omega, by omega, by show v < 65536; omega⟩
    have e1 : putE v 2 = 0 := by rw [putE, if_pos hp]
    have e2 : putS v 2 true = bs v 2 := by rw [putS, if_pos hp]; rfl
    have := putr_any v 2 true W h0 (by omega)
    rw [e1, e2] at this
    exact this
  have HP := Lib.hid P
  clear P
  generalize bs v 2 = T at *
  go_enter Try.func82, Try.ntmps82
  go_wp2_with (go_at_call 80; (with_reducible refine (HP.out _).mono ?_); rintro e w' ⟨rfl, hb⟩)
  go_ret
  exact ⟨rfl, hb⟩
theorem rput82_3 (v : Int) (w : World) (h0 : 0 ≤ v) (h1 : v < 16777216) :
    Calls Try.prog 82 #[.int .i64 v, .int .i64 3] w fun e w' => e = .returned (.string (bs v 3)) ∧ Below w.heap.size w w' := by
  have P : ∀ W, Calls Try.prog 80 #[.int .u64 v, .int .i64 3, .bool true] W fun e w' => e = .returned (.tuple #[.string (bs v 3), .int .i64 0]) ∧ Below W.heap.size W w' := by
    intro W
    have hp : 1 ≤ (3 : Int) ∧ (3 : Int) ≤ 8 ∧ v < 256 ^ (3 : Int).toNat := ⟨by omega, by omega, by show v < 16777216; omega⟩
    have e1 : putE v 3 = 0 := by rw [putE, if_pos hp]
    have e2 : putS v 3 true = bs v 3 := by rw [putS, if_pos hp]; rfl
    have := putr_any v 3 true W h0 (by omega)
    rw [e1, e2] at this
    exact this
  have HP := Lib.hid P
  clear P
  generalize bs v 3 = T at *
  go_enter Try.func82, Try.ntmps82
  go_wp2_with (go_at_call 80; (with_reducible refine (HP.out _).mono ?_); rintro e w' ⟨rfl, hb⟩)
  go_ret
  exact ⟨rfl, hb⟩
theorem rput82_4 (v : Int) (w : World) (h0 : 0 ≤ v) (h1 : v < 4294967296) :
    Calls Try.prog 82 #[.int .i64 v, .int .i64 4] w fun e w' => e = .returned (.string (bs v 4)) ∧ Below w.heap.size w w' := by
  have P : ∀ W, Calls Try.prog 80 #[.int .u64 v, .int .i64 4, .bool true] W fun e w' => e = .returned (.tuple #[.string (bs v 4), .int .i64 0]) ∧ Below W.heap.size W w' := by
    intro W
    have hp : 1 ≤ (4 : Int) ∧ (4 : Int) ≤ 8 ∧ v < 256 ^ (4 : Int).toNat := ⟨by omega, by omega, by show v < 4294967296; omega⟩
    have e1 : putE v 4 = 0 := by rw [putE, if_pos hp]
    have e2 : putS v 4 true = bs v 4 := by rw [putS, if_pos hp]; rfl
    have := putr_any v 4 true W h0 (by omega)
    rw [e1, e2] at this
    exact this
  have HP := Lib.hid P
  clear P
  generalize bs v 4 = T at *
  go_enter Try.func82, Try.ntmps82
  go_wp2_with (go_at_call 80; (with_reducible refine (HP.out _).mono ?_); rintro e w' ⟨rfl, hb⟩)
  go_ret
  exact ⟨rfl, hb⟩
theorem below_next {w w1 w' : World} (h : Below w.heap.size w w1) (hq : Below w1.heap.size w1 w') : Below w.heap.size w w' := h.trans (hq.mono h.size)
theorem in61 (v m : Int) (w : World) : Calls Try.prog 61 #[.int .i64 v, .int .i64 m] w fun e w' => e = .returned (.bool (inB v m)) ∧ w = w' := by
  by_cases h : 0 ≤ v
  · go_enter Try.func61, Try.ntmps61
    go_wp2
    go_ret
    exact ⟨ret_bool (by simp [inB, h]), rfl⟩
  · go_enter Try.func61, Try.ntmps61
    go_wp2
    go_ret
    exact ⟨ret_bool (by simp [inB]; omega), rfl⟩
theorem rAt_any (v : Int) (src dst : ByteArray) (proto hops cls id flags off label : Int) (opt body : ByteArray) (w : World) : Calls Try.prog 38 #[.agg #[.int .i64 v, .string src, .string dst, .int .i64 proto, .int .i64 hops, .int .i64 cls, .int .i64 id, .int .i64 flags, .int .i64 off, .int .i64 label, .string opt, .string body]] w fun e w' => e = .returned (.int .i64 (atV proto)) ∧ Below w.heap.size w w' := by
  unfold atV
  by_cases h : proto = 6
  · subst h
    go_enter Try.func38, Try.ntmps38
    go_wp2
    go_ret
    exact ⟨rfl, (Below.refl _ _).alloc (Nat.le_refl _) _⟩
  · rw [if_neg h]
    have e : (proto == 6) = false := by simpa using h
    go_enter Try.func38, Try.ntmps38
    go_wp2
    go_ret
    exact ⟨rfl, (Below.refl _ _).alloc (Nat.le_refl _) _⟩
def fullV (v : Int) : Int := if v = 0 then 65535 else v
theorem full_any (v : Int) (w : World) : Calls Try.prog 63 #[.int .u16 v] w fun e w' => e = .returned (.int .u16 (fullV v)) ∧ w = w' := by
  unfold fullV
  by_cases h : v = 0
  · subst h
    go_enter Try.func63, Try.ntmps63
    go_wp2
    go_ret
    exact ⟨rfl, rfl⟩
  · rw [if_neg h]
    have e : (v == 0) = false := by simpa using h
    go_enter Try.func63, Try.ntmps63
    go_wp2
    go_ret
    exact ⟨rfl, rfl⟩
theorem num8_any (s : ByteArray) (a n : Nat) (w : World) (hs : s.size ≤ maxLen) (h1 : 1 ≤ n) (h2 : n ≤ 4) (h3 : a + n ≤ s.size) :
    Calls Try.prog 78 #[.string s, .int .i64 a, .int .i64 n] w fun e w' => e = .returned (.int .i64 (nat s a n)) ∧ w = w' := by
  have hlt := nat_lt s a n
  have hp : 256 ^ n ≤ 256 ^ 4 := Nat.pow_le_pow_right (by decide) h2
  have G := fun W => getr_big s a n W hs (by omega) (by omega) h3
  change ∀ W, Calls Try.prog 108 #[.string s, .int .i64 a, .int .i64 n, .bool true] W fun e w' => e = .returned (.tuple #[.int .u64 (nat s a n), .int .i64 0]) ∧ W = w' at G
  have HG := Lib.hid G
  have hX : nat s a n < 4294967296 := by omega
  clear G hlt hp
  generalize nat s a n = X at *
  go_enter Try.func78, Try.ntmps78
  go_wp2_with (go_at_call 108; (with_reducible refine (HG.out _).mono ?_); rintro e w' ⟨rfl, rfl⟩)
  go_ret
  exact ⟨rfl, rfl⟩
set_option maxRecDepth 100000 in
set_option maxHeartbeats 800000 in
theorem rset_any (s : ByteArray) (a : Nat) (v : Int) (w : World) (hs : s.size ≤ 281474976710656) (h12 : a + 2 ≤ s.size) (h0 : 0 ≤ v) (h1 : v ≤ 65535) :
    Calls Try.prog 62 #[.string s, .int .i64 a, .int .u16 v] w fun e w' => e = .returned (.string (withS s a v)) ∧ Below w.heap.size w w' := by
  have A := fun W => rput98_2 v W h0 (by omega)
  have hz := Nat.le_of_eq (bs_size v 2)
  have e1 : withS s a v = s.extract 0 a ++ bs v 2 ++ s.extract (a + 2) s.size := rfl
  rw [e1]
  generalize bs v 2 = X at *
  have HA := Lib.hid A
  clear A e1
  have g1 : a ≤ s.size := by omega
  have g2 : (0 : Int) ≤ (a : Int) + 2 := by omega
  have g3 : (a : Int) + 2 ≤ s.size := by omega
  have g4 : IntKind.i64.wrap ((a : Int) + 2) = (a : Int) + 2 := IntWalk.i64_in _ (by omega)
  have g5 : ((a : Int) + 2).toNat = a + 2 := by omega
  have g6 : (a : Int) ≤ s.size := by omega
  obtain ⟨P, hP, eP⟩ : ∃ P : ByteArray, P.size ≤ 281474976710656 ∧ s.extract 0 a = P := ⟨_, by rw [ByteArray.size_extract]; omega, rfl⟩
  obtain ⟨Q, hQ, eQ⟩ : ∃ Q : ByteArray, Q.size ≤ 281474976710656 ∧ s.extract (a + 2) s.size = Q := ⟨_, by rw [ByteArray.size_extract]; omega, rfl⟩
  rw [eP, eQ]
  have g7 : ¬ 9223372036854775807 < P.size + X.size := by omega
  have g8 : ¬ 9223372036854775807 < P.size + X.size + Q.size := by omega
  have g9 : IntKind.i64.wrap v = v := IntWalk.i64_in _ (by omega)
  have g10 : ¬ (s.size : Int) < a := by omega
  have g11 : ¬ (s.size : Int) < (a : Int) + 2 := by omega
  go_enter Try.func62, Try.ntmps62
  go_wp2_with fail
  have c0 : Below w.heap.size w w.drew := (Below.refl _ _).drew
  go_region_held3 (fun w' => Below w.heap.size w w') (first | exact c0 | assumption | exact below_next (by assumption) hq)
    (first | (go_at_call 98; (with_reducible refine (HA.out _).mono ?_); rintro e w' ⟨rfl, hq⟩))
  all_goals
    rename_i hH
    go_wp2
    go_ret
    exact ⟨rfl, hH⟩
end Go.Proofs.Ytalkpllmcigjnaa
namespace Go.Proofs.Ytalkpllmcigjnaa
open Go.RowKit

set_option maxHeartbeats 6400000 in
theorem carries_walk (v : Int) (src dst : ByteArray) (proto hops cls id flags off label : Int) (opt body : ByteArray) (w : World) (b4 s4 d4 b6 s6 d6 p6 p17 o0 fl : Bool) (h1 : (v == 4) = b4) (h2 : ((src.size : Int) == 4) = s4) (h3 : ((dst.size : Int) == 4) = d4) (h4 : (v == 6) = b6) (h5 : ((src.size : Int) == 16) = s6) (h6 : ((dst.size : Int) == 16) = d6)
    (h7 : (proto == 6) = p6) (h8 : (proto == 17) = p17) (h9 : (off == 0) = o0) (h10 : (flags.tmod 2 == 0) = fl) :
    Calls Try.prog 77 #[.agg #[.int .i64 v, .string src, .string dst, .int .i64 proto, .int .i64 hops, .int .i64 cls, .int .i64 id, .int .i64 flags, .int .i64 off, .int .i64 label, .string opt, .string body]] w fun e w' => e = .returned (.bool ((p6 || p17) && o0 && fl && (b4 && s4 && d4 || b6 && s6 && d6))) ∧ Below w.heap.size w w' := by
  cases b4
  · cases b6
    · cases p6
      · cases p17
        · go_enter Try.func77, Try.ntmps77
          go_wp2_with fail
          go_ret
          exact ⟨rfl, (Below.refl _ _).alloc (Nat.le_refl _) _⟩
        · cases o0
          · go_enter Try.func77, Try.ntmps77
            go_wp2_with fail
            go_ret
            exact ⟨rfl, (Below.refl _ _).alloc (Nat.le_refl _) _⟩
          · cases fl
            · go_enter Try.func77, Try.ntmps77
              go_wp2_with fail
              go_ret
              exact ⟨rfl, (Below.refl _ _).alloc (Nat.le_refl _) _⟩
            · go_enter Try.func77, Try.ntmps77
              go_wp2_with fail
              go_ret
              exact ⟨rfl, (Below.refl _ _).alloc (Nat.le_refl _) _⟩
      · cases o0
        · go_enter Try.func77, Try.ntmps77
          go_wp2_with fail
          go_ret
          exact ⟨rfl, (Below.refl _ _).alloc (Nat.le_refl _) _⟩
        · cases fl
          · go_enter Try.func77, Try.ntmps77
            go_wp2_with fail
            go_ret
            exact ⟨rfl, (Below.refl _ _).alloc (Nat.le_refl _) _⟩
          · go_enter Try.func77, Try.ntmps77
            go_wp2_with fail
            go_ret
            exact ⟨rfl, (Below.refl _ _).alloc (Nat.le_refl _) _⟩
    · cases s6
      · cases p6
        · cases p17
          · go_enter Try.func77, Try.ntmps77
            go_wp2_with fail
            go_ret
            exact ⟨rfl, (Below.refl _ _).alloc (Nat.le_refl _) _⟩
          · cases o0
            · go_enter Try.func77, Try.ntmps77
              go_wp2_with fail
              go_ret
              exact ⟨rfl, (Below.refl _ _).alloc (Nat.le_refl _) _⟩
            · cases fl
              · go_enter Try.func77, Try.ntmps77
                go_wp2_with fail
                go_ret
                exact ⟨rfl, (Below.refl _ _).alloc (Nat.le_refl _) _⟩
              · go_enter Try.func77, Try.ntmps77
                go_wp2_with fail
                go_ret
                exact ⟨rfl, (Below.refl _ _).alloc (Nat.le_refl _) _⟩
        · cases o0
          · go_enter Try.func77, Try.ntmps77
            go_wp2_with fail
            go_ret
            exact ⟨rfl, (Below.refl _ _).alloc (Nat.le_refl _) _⟩
          · cases fl
            · go_enter Try.func77, Try.ntmps77
              go_wp2_with fail
              go_ret
              exact ⟨rfl, (Below.refl _ _).alloc (Nat.le_refl _) _⟩
            · go_enter Try.func77, Try.ntmps77
              go_wp2_with fail
              go_ret
              exact ⟨rfl, (Below.refl _ _).alloc (Nat.le_refl _) _⟩
      · cases d6
        · cases p6
          · cases p17
            · go_enter Try.func77, Try.ntmps77
              go_wp2_with fail
              go_ret
              exact ⟨rfl, (Below.refl _ _).alloc (Nat.le_refl _) _⟩
            · cases o0
              · go_enter Try.func77, Try.ntmps77
                go_wp2_with fail
                go_ret
                exact ⟨rfl, (Below.refl _ _).alloc (Nat.le_refl _) _⟩
              · cases fl
                · go_enter Try.func77, Try.ntmps77
                  go_wp2_with fail
                  go_ret
                  exact ⟨rfl, (Below.refl _ _).alloc (Nat.le_refl _) _⟩
                · go_enter Try.func77, Try.ntmps77
                  go_wp2_with fail
                  go_ret
                  exact ⟨rfl, (Below.refl _ _).alloc (Nat.le_refl _) _⟩
          · cases o0
            · go_enter Try.func77, Try.ntmps77
              go_wp2_with fail
              go_ret
              exact ⟨rfl, (Below.refl _ _).alloc (Nat.le_refl _) _⟩
            · cases fl
              · go_enter Try.func77, Try.ntmps77
                go_wp2_with fail
                go_ret
                exact ⟨rfl, (Below.refl _ _).alloc (Nat.le_refl _) _⟩
              · go_enter Try.func77, Try.ntmps77
                go_wp2_with fail
                go_ret
                exact ⟨rfl, (Below.refl _ _).alloc (Nat.le_refl _) _⟩
        · cases p6
          · cases p17
            · go_enter Try.func77, Try.ntmps77
              go_wp2_with fail
              go_ret
              exact ⟨rfl, (Below.refl _ _).alloc (Nat.le_refl _) _⟩
            · cases o0
              · go_enter Try.func77, Try.ntmps77
                go_wp2_with fail
                go_ret
                exact ⟨rfl, (Below.refl _ _).alloc (Nat.le_refl _) _⟩
              · cases fl
                · go_enter Try.func77, Try.ntmps77
                  go_wp2_with fail
                  go_ret
                  exact ⟨rfl, (Below.refl _ _).alloc (Nat.le_refl _) _⟩
                · go_enter Try.func77, Try.ntmps77
                  go_wp2_with fail
                  go_ret
                  exact ⟨rfl, (Below.refl _ _).alloc (Nat.le_refl _) _⟩
          · cases o0
            · go_enter Try.func77, Try.ntmps77
              go_wp2_with fail
              go_ret
              exact ⟨rfl, (Below.refl _ _).alloc (Nat.le_refl _) _⟩
            · cases fl
              · go_enter Try.func77, Try.ntmps77
                go_wp2_with fail
                go_ret
                exact ⟨rfl, (Below.refl _ _).alloc (Nat.le_refl _) _⟩
              · go_enter Try.func77, Try.ntmps77
                go_wp2_with fail
                go_ret
                exact ⟨rfl, (Below.refl _ _).alloc (Nat.le_refl _) _⟩
  · cases s4
    · cases b6
      · cases p6
        · cases p17
          · go_enter Try.func77, Try.ntmps77
            go_wp2_with fail
            go_ret
            exact ⟨rfl, (Below.refl _ _).alloc (Nat.le_refl _) _⟩
          · cases o0
            · go_enter Try.func77, Try.ntmps77
              go_wp2_with fail
              go_ret
              exact ⟨rfl, (Below.refl _ _).alloc (Nat.le_refl _) _⟩
            · cases fl
              · go_enter Try.func77, Try.ntmps77
                go_wp2_with fail
                go_ret
                exact ⟨rfl, (Below.refl _ _).alloc (Nat.le_refl _) _⟩
              · go_enter Try.func77, Try.ntmps77
                go_wp2_with fail
                go_ret
                exact ⟨rfl, (Below.refl _ _).alloc (Nat.le_refl _) _⟩
        · cases o0
          · go_enter Try.func77, Try.ntmps77
            go_wp2_with fail
            go_ret
            exact ⟨rfl, (Below.refl _ _).alloc (Nat.le_refl _) _⟩
          · cases fl
            · go_enter Try.func77, Try.ntmps77
              go_wp2_with fail
              go_ret
              exact ⟨rfl, (Below.refl _ _).alloc (Nat.le_refl _) _⟩
            · go_enter Try.func77, Try.ntmps77
              go_wp2_with fail
              go_ret
              exact ⟨rfl, (Below.refl _ _).alloc (Nat.le_refl _) _⟩
      · cases s6
        · cases p6
          · cases p17
            · go_enter Try.func77, Try.ntmps77
              go_wp2_with fail
              go_ret
              exact ⟨rfl, (Below.refl _ _).alloc (Nat.le_refl _) _⟩
            · cases o0
              · go_enter Try.func77, Try.ntmps77
                go_wp2_with fail
                go_ret
                exact ⟨rfl, (Below.refl _ _).alloc (Nat.le_refl _) _⟩
              · cases fl
                · go_enter Try.func77, Try.ntmps77
                  go_wp2_with fail
                  go_ret
                  exact ⟨rfl, (Below.refl _ _).alloc (Nat.le_refl _) _⟩
                · go_enter Try.func77, Try.ntmps77
                  go_wp2_with fail
                  go_ret
                  exact ⟨rfl, (Below.refl _ _).alloc (Nat.le_refl _) _⟩
          · cases o0
            · go_enter Try.func77, Try.ntmps77
              go_wp2_with fail
              go_ret
              exact ⟨rfl, (Below.refl _ _).alloc (Nat.le_refl _) _⟩
            · cases fl
              · go_enter Try.func77, Try.ntmps77
                go_wp2_with fail
                go_ret
                exact ⟨rfl, (Below.refl _ _).alloc (Nat.le_refl _) _⟩
              · go_enter Try.func77, Try.ntmps77
                go_wp2_with fail
                go_ret
                exact ⟨rfl, (Below.refl _ _).alloc (Nat.le_refl _) _⟩
        · cases d6
          · cases p6
            · cases p17
              · go_enter Try.func77, Try.ntmps77
                go_wp2_with fail
                go_ret
                exact ⟨rfl, (Below.refl _ _).alloc (Nat.le_refl _) _⟩
              · cases o0
                · go_enter Try.func77, Try.ntmps77
                  go_wp2_with fail
                  go_ret
                  exact ⟨rfl, (Below.refl _ _).alloc (Nat.le_refl _) _⟩
                · cases fl
                  · go_enter Try.func77, Try.ntmps77
                    go_wp2_with fail
                    go_ret
                    exact ⟨rfl, (Below.refl _ _).alloc (Nat.le_refl _) _⟩
                  · go_enter Try.func77, Try.ntmps77
                    go_wp2_with fail
                    go_ret
                    exact ⟨rfl, (Below.refl _ _).alloc (Nat.le_refl _) _⟩
            · cases o0
              · go_enter Try.func77, Try.ntmps77
                go_wp2_with fail
                go_ret
                exact ⟨rfl, (Below.refl _ _).alloc (Nat.le_refl _) _⟩
              · cases fl
                · go_enter Try.func77, Try.ntmps77
                  go_wp2_with fail
                  go_ret
                  exact ⟨rfl, (Below.refl _ _).alloc (Nat.le_refl _) _⟩
                · go_enter Try.func77, Try.ntmps77
                  go_wp2_with fail
                  go_ret
                  exact ⟨rfl, (Below.refl _ _).alloc (Nat.le_refl _) _⟩
          · cases p6
            · cases p17
              · go_enter Try.func77, Try.ntmps77
                go_wp2_with fail
                go_ret
                exact ⟨rfl, (Below.refl _ _).alloc (Nat.le_refl _) _⟩
              · cases o0
                · go_enter Try.func77, Try.ntmps77
                  go_wp2_with fail
                  go_ret
                  exact ⟨rfl, (Below.refl _ _).alloc (Nat.le_refl _) _⟩
                · cases fl
                  · go_enter Try.func77, Try.ntmps77
                    go_wp2_with fail
                    go_ret
                    exact ⟨rfl, (Below.refl _ _).alloc (Nat.le_refl _) _⟩
                  · go_enter Try.func77, Try.ntmps77
                    go_wp2_with fail
                    go_ret
                    exact ⟨rfl, (Below.refl _ _).alloc (Nat.le_refl _) _⟩
            · cases o0
              · go_enter Try.func77, Try.ntmps77
                go_wp2_with fail
                go_ret
                exact ⟨rfl, (Below.refl _ _).alloc (Nat.le_refl _) _⟩
              · cases fl
                · go_enter Try.func77, Try.ntmps77
                  go_wp2_with fail
                  go_ret
                  exact ⟨rfl, (Below.refl _ _).alloc (Nat.le_refl _) _⟩
                · go_enter Try.func77, Try.ntmps77
                  go_wp2_with fail
                  go_ret
                  exact ⟨rfl, (Below.refl _ _).alloc (Nat.le_refl _) _⟩
    · cases d4
      · cases b6
        · cases p6
          · cases p17
            · go_enter Try.func77, Try.ntmps77
              go_wp2_with fail
              go_ret
              exact ⟨rfl, (Below.refl _ _).alloc (Nat.le_refl _) _⟩
            · cases o0
              · go_enter Try.func77, Try.ntmps77
                go_wp2_with fail
                go_ret
                exact ⟨rfl, (Below.refl _ _).alloc (Nat.le_refl _) _⟩
              · cases fl
                · go_enter Try.func77, Try.ntmps77
                  go_wp2_with fail
                  go_ret
                  exact ⟨rfl, (Below.refl _ _).alloc (Nat.le_refl _) _⟩
                · go_enter Try.func77, Try.ntmps77
                  go_wp2_with fail
                  go_ret
                  exact ⟨rfl, (Below.refl _ _).alloc (Nat.le_refl _) _⟩
          · cases o0
            · go_enter Try.func77, Try.ntmps77
              go_wp2_with fail
              go_ret
              exact ⟨rfl, (Below.refl _ _).alloc (Nat.le_refl _) _⟩
            · cases fl
              · go_enter Try.func77, Try.ntmps77
                go_wp2_with fail
                go_ret
                exact ⟨rfl, (Below.refl _ _).alloc (Nat.le_refl _) _⟩
              · go_enter Try.func77, Try.ntmps77
                go_wp2_with fail
                go_ret
                exact ⟨rfl, (Below.refl _ _).alloc (Nat.le_refl _) _⟩
        · cases s6
          · cases p6
            · cases p17
              · go_enter Try.func77, Try.ntmps77
                go_wp2_with fail
                go_ret
                exact ⟨rfl, (Below.refl _ _).alloc (Nat.le_refl _) _⟩
              · cases o0
                · go_enter Try.func77, Try.ntmps77
                  go_wp2_with fail
                  go_ret
                  exact ⟨rfl, (Below.refl _ _).alloc (Nat.le_refl _) _⟩
                · cases fl
                  · go_enter Try.func77, Try.ntmps77
                    go_wp2_with fail
                    go_ret
                    exact ⟨rfl, (Below.refl _ _).alloc (Nat.le_refl _) _⟩
                  · go_enter Try.func77, Try.ntmps77
                    go_wp2_with fail
                    go_ret
                    exact ⟨rfl, (Below.refl _ _).alloc (Nat.le_refl _) _⟩
            · cases o0
              · go_enter Try.func77, Try.ntmps77
                go_wp2_with fail
                go_ret
                exact ⟨rfl, (Below.refl _ _).alloc (Nat.le_refl _) _⟩
              · cases fl
                · go_enter Try.func77, Try.ntmps77
                  go_wp2_with fail
                  go_ret
                  exact ⟨rfl, (Below.refl _ _).alloc (Nat.le_refl _) _⟩
                · go_enter Try.func77, Try.ntmps77
                  go_wp2_with fail
                  go_ret
                  exact ⟨rfl, (Below.refl _ _).alloc (Nat.le_refl _) _⟩
          · cases d6
            · cases p6
              · cases p17
                · go_enter Try.func77, Try.ntmps77
                  go_wp2_with fail
                  go_ret
                  exact ⟨rfl, (Below.refl _ _).alloc (Nat.le_refl _) _⟩
                · cases o0
                  · go_enter Try.func77, Try.ntmps77
                    go_wp2_with fail
                    go_ret
                    exact ⟨rfl, (Below.refl _ _).alloc (Nat.le_refl _) _⟩
                  · cases fl
                    · go_enter Try.func77, Try.ntmps77
                      go_wp2_with fail
                      go_ret
                      exact ⟨rfl, (Below.refl _ _).alloc (Nat.le_refl _) _⟩
                    · go_enter Try.func77, Try.ntmps77
                      go_wp2_with fail
                      go_ret
                      exact ⟨rfl, (Below.refl _ _).alloc (Nat.le_refl _) _⟩
              · cases o0
                · go_enter Try.func77, Try.ntmps77
                  go_wp2_with fail
                  go_ret
                  exact ⟨rfl, (Below.refl _ _).alloc (Nat.le_refl _) _⟩
                · cases fl
                  · go_enter Try.func77, Try.ntmps77
                    go_wp2_with fail
                    go_ret
                    exact ⟨rfl, (Below.refl _ _).alloc (Nat.le_refl _) _⟩
                  · go_enter Try.func77, Try.ntmps77
                    go_wp2_with fail
                    go_ret
                    exact ⟨rfl, (Below.refl _ _).alloc (Nat.le_refl _) _⟩
            · cases p6
              · cases p17
                · go_enter Try.func77, Try.ntmps77
                  go_wp2_with fail
                  go_ret
                  exact ⟨rfl, (Below.refl _ _).alloc (Nat.le_refl _) _⟩
                · cases o0
                  · go_enter Try.func77, Try.ntmps77
                    go_wp2_with fail
                    go_ret
                    exact ⟨rfl, (Below.refl _ _).alloc (Nat.le_refl _) _⟩
                  · cases fl
                    · go_enter Try.func77, Try.ntmps77
                      go_wp2_with fail
                      go_ret
                      exact ⟨rfl, (Below.refl _ _).alloc (Nat.le_refl _) _⟩
                    · go_enter Try.func77, Try.ntmps77
                      go_wp2_with fail
                      go_ret
                      exact ⟨rfl, (Below.refl _ _).alloc (Nat.le_refl _) _⟩
              · cases o0
                · go_enter Try.func77, Try.ntmps77
                  go_wp2_with fail
                  go_ret
                  exact ⟨rfl, (Below.refl _ _).alloc (Nat.le_refl _) _⟩
                · cases fl
                  · go_enter Try.func77, Try.ntmps77
                    go_wp2_with fail
                    go_ret
                    exact ⟨rfl, (Below.refl _ _).alloc (Nat.le_refl _) _⟩
                  · go_enter Try.func77, Try.ntmps77
                    go_wp2_with fail
                    go_ret
                    exact ⟨rfl, (Below.refl _ _).alloc (Nat.le_refl _) _⟩
      · cases p6
        · cases p17
          · go_enter Try.func77, Try.ntmps77
            go_wp2_with fail
            go_ret
            exact ⟨rfl, (Below.refl _ _).alloc (Nat.le_refl _) _⟩
          · cases o0
            · go_enter Try.func77, Try.ntmps77
              go_wp2_with fail
              go_ret
              exact ⟨rfl, (Below.refl _ _).alloc (Nat.le_refl _) _⟩
            · cases fl
              · go_enter Try.func77, Try.ntmps77
                go_wp2_with fail
                go_ret
                exact ⟨rfl, (Below.refl _ _).alloc (Nat.le_refl _) _⟩
              · go_enter Try.func77, Try.ntmps77
                go_wp2_with fail
                go_ret
                exact ⟨rfl, (Below.refl _ _).alloc (Nat.le_refl _) _⟩
        · cases o0
          · go_enter Try.func77, Try.ntmps77
            go_wp2_with fail
            go_ret
            exact ⟨rfl, (Below.refl _ _).alloc (Nat.le_refl _) _⟩
          · cases fl
            · go_enter Try.func77, Try.ntmps77
              go_wp2_with fail
              go_ret
              exact ⟨rfl, (Below.refl _ _).alloc (Nat.le_refl _) _⟩
            · go_enter Try.func77, Try.ntmps77
              go_wp2_with fail
              go_ret
              exact ⟨rfl, (Below.refl _ _).alloc (Nat.le_refl _) _⟩
theorem carries_any (p : Pk) (w : World) : Calls Try.prog 77 #[.agg #[.int .i64 p.v, .string p.src, .string p.dst, .int .i64 p.proto, .int .i64 p.hops, .int .i64 p.cls, .int .i64 p.id, .int .i64 p.flags, .int .i64 p.off, .int .i64 p.label, .string p.opt, .string p.body]] w fun e w' => e = .returned (.bool (canB p)) ∧ Below w.heap.size w w' := by
  refine (carries_walk _ _ _ _ _ _ _ _ _ _ _ _ w _ _ _ _ _ _ _ _ _ _ rfl rfl rfl rfl rfl rfl rfl rfl rfl rfl).mono ?_
  rintro e w' ⟨rfl, hq⟩
  refine ⟨?_, hq⟩
  congr 2
  rw [Bool.eq_iff_iff, canB_iff]
  have ht : p.flags.tmod 2 = 0 ↔ p.flags % 2 = 0 := by
    rw [Int.tmod_eq_emod]; split <;> omega
  simp only [Bool.and_eq_true, Bool.or_eq_true, beq_iff_eq]
  rw [ht]
  omega
end Go.Proofs.Ytalkpllmcigjnaa
