/-
  Packets and segments: what ip.Build and segment.Build answer.
-/
import Derived.Test.YtalkpllmcigjnaaMd
import Derived.Deep.RegionHeld3
namespace Go.Proofs.Ytalkpllmcigjnaa
open Go.RowKit

theorem pk_next {w w1 w' : World} {v : Int} {src dst : ByteArray} {proto hops cls id flags off label : Int} {opt body : ByteArray} (h : (w1.cell? ⟨w.heap.size, 0, none⟩ = some (.int .i64 v) ∧ w1.cell? ⟨w.heap.size, 1, none⟩ = some (.string src) ∧ w1.cell? ⟨w.heap.size, 2, none⟩ = some (.string dst) ∧ w1.cell? ⟨w.heap.size, 3, none⟩ = some (.int .i64 proto) ∧ w1.cell? ⟨w.heap.size, 4, none⟩ = some (.int .i64 hops) ∧ w1.cell? ⟨w.heap.size, 5, none⟩ = some (.int .i64 cls) ∧ w1.cell? ⟨w.heap.size, 6, none⟩ = some (.int .i64 id) ∧ w1.cell? ⟨w.heap.size, 7, none⟩ = some (.int .i64 flags) ∧ w1.cell? ⟨w.heap.size, 8, none⟩ = some (.int .i64 off) ∧ w1.cell? ⟨w.heap.size, 9, none⟩ = some (.int .i64 label) ∧ w1.cell? ⟨w.heap.size, 10, none⟩ = some (.string opt) ∧ w1.cell? ⟨w.heap.size, 11, none⟩ = some (.string body)) ∧ Held w 36 #[.int .i64 v, .string src, .string dst, .int .i64 proto, .int .i64 hops, .int .i64 cls, .int .i64 id, .int .i64 flags, .int .i64 off, .int .i64 label, .string opt, .string body] w1) (hq : Below w1.heap.size w1 w') : (w'.cell? ⟨w.heap.size, 0, none⟩ = some (.int .i64 v) ∧ w'.cell? ⟨w.heap.size, 1, none⟩ = some (.string src) ∧ w'.cell? ⟨w.heap.size, 2, none⟩ = some (.string dst) ∧ w'.cell? ⟨w.heap.size, 3, none⟩ = some (.int .i64 proto) ∧ w'.cell? ⟨w.heap.size, 4, none⟩ = some (.int .i64 hops) ∧ w'.cell? ⟨w.heap.size, 5, none⟩ = some (.int .i64 cls) ∧ w'.cell? ⟨w.heap.size, 6, none⟩ = some (.int .i64 id) ∧ w'.cell? ⟨w.heap.size, 7, none⟩ = some (.int .i64 flags) ∧ w'.cell? ⟨w.heap.size, 8, none⟩ = some (.int .i64 off) ∧ w'.cell? ⟨w.heap.size, 9, none⟩ = some (.int .i64 label) ∧ w'.cell? ⟨w.heap.size, 10, none⟩ = some (.string opt) ∧ w'.cell? ⟨w.heap.size, 11, none⟩ = some (.string body)) ∧ Held w 36 #[.int .i64 v, .string src, .string dst, .int .i64 proto, .int .i64 hops, .int .i64 cls, .int .i64 id, .int .i64 flags, .int .i64 off, .int .i64 label, .string opt, .string body] w' :=
  ⟨pk_cells (h.2.next hq), h.2.next hq⟩
theorem pk_new (w : World) (v : Int) (src dst : ByteArray) (proto hops cls id flags off label : Int) (opt body : ByteArray) : ((w.alloc (.cells #[.int .i64 v, .string src, .string dst, .int .i64 proto, .int .i64 hops, .int .i64 cls, .int .i64 id, .int .i64 flags, .int .i64 off, .int .i64 label, .string opt, .string body] 36)).drew.cell? ⟨w.heap.size, 0, none⟩ = some (.int .i64 v) ∧ (w.alloc (.cells #[.int .i64 v, .string src, .string dst, .int .i64 proto, .int .i64 hops, .int .i64 cls, .int .i64 id, .int .i64 flags, .int .i64 off, .int .i64 label, .string opt, .string body] 36)).drew.cell? ⟨w.heap.size, 1, none⟩ = some (.string src) ∧ (w.alloc (.cells #[.int .i64 v, .string src, .string dst, .int .i64 proto, .int .i64 hops, .int .i64 cls, .int .i64 id, .int .i64 flags, .int .i64 off, .int .i64 label, .string opt, .string body] 36)).drew.cell? ⟨w.heap.size, 2, none⟩ = some (.string dst) ∧ (w.alloc (.cells #[.int .i64 v, .string src, .string dst, .int .i64 proto, .int .i64 hops, .int .i64 cls, .int .i64 id, .int .i64 flags, .int .i64 off, .int .i64 label, .string opt, .string body] 36)).drew.cell? ⟨w.heap.size, 3, none⟩ = some (.int .i64 proto) ∧ (w.alloc (.cells #[.int .i64 v, .string src, .string dst, .int .i64 proto, .int .i64 hops, .int .i64 cls, .int .i64 id, .int .i64 flags, .int .i64 off, .int .i64 label, .string opt, .string body] 36)).drew.cell? ⟨w.heap.size, 4, none⟩ = some (.int .i64 hops) ∧ (w.alloc (.cells #[.int .i64 v, .string src, .string dst, .int .i64 proto, .int .i64 hops, .int .i64 cls, .int .i64 id, .int .i64 flags, .int .i64 off, .int .i64 label, .string opt, .string body] 36)).drew.cell? ⟨w.heap.size, 5, none⟩ = some (.int .i64 cls) ∧ (w.alloc (.cells #[.int .i64 v, .string src, .string dst, .int .i64 proto, .int .i64 hops, .int .i64 cls, .int .i64 id, .int .i64 flags, .int .i64 off, .int .i64 label, .string opt, .string body] 36)).drew.cell? ⟨w.heap.size, 6, none⟩ = some (.int .i64 id) ∧ (w.alloc (.cells #[.int .i64 v, .string src, .string dst, .int .i64 proto, .int .i64 hops, .int .i64 cls, .int .i64 id, .int .i64 flags, .int .i64 off, .int .i64 label, .string opt, .string body] 36)).drew.cell? ⟨w.heap.size, 7, none⟩ = some (.int .i64 flags) ∧ (w.alloc (.cells #[.int .i64 v, .string src, .string dst, .int .i64 proto, .int .i64 hops, .int .i64 cls, .int .i64 id, .int .i64 flags, .int .i64 off, .int .i64 label, .string opt, .string body] 36)).drew.cell? ⟨w.heap.size, 8, none⟩ = some (.int .i64 off) ∧ (w.alloc (.cells #[.int .i64 v, .string src, .string dst, .int .i64 proto, .int .i64 hops, .int .i64 cls, .int .i64 id, .int .i64 flags, .int .i64 off, .int .i64 label, .string opt, .string body] 36)).drew.cell? ⟨w.heap.size, 9, none⟩ = some (.int .i64 label) ∧ (w.alloc (.cells #[.int .i64 v, .string src, .string dst, .int .i64 proto, .int .i64 hops, .int .i64 cls, .int .i64 id, .int .i64 flags, .int .i64 off, .int .i64 label, .string opt, .string body] 36)).drew.cell? ⟨w.heap.size, 10, none⟩ = some (.string opt) ∧ (w.alloc (.cells #[.int .i64 v, .string src, .string dst, .int .i64 proto, .int .i64 hops, .int .i64 cls, .int .i64 id, .int .i64 flags, .int .i64 off, .int .i64 label, .string opt, .string body] 36)).drew.cell? ⟨w.heap.size, 11, none⟩ = some (.string body)) ∧ Held w 36 #[.int .i64 v, .string src, .string dst, .int .i64 proto, .int .i64 hops, .int .i64 cls, .int .i64 id, .int .i64 flags, .int .i64 off, .int .i64 label, .string opt, .string body] (w.alloc (.cells #[.int .i64 v, .string src, .string dst, .int .i64 proto, .int .i64 hops, .int .i64 cls, .int .i64 id, .int .i64 flags, .int .i64 off, .int .i64 label, .string opt, .string body] 36)).drew :=
  ⟨pk_cells (Held.new w 36 #[.int .i64 v, .string src, .string dst, .int .i64 proto, .int .i64 hops, .int .i64 cls, .int .i64 id, .int .i64 flags, .int .i64 off, .int .i64 label, .string opt, .string body]).drew, (Held.new w 36 #[.int .i64 v, .string src, .string dst, .int .i64 proto, .int .i64 hops, .int .i64 cls, .int .i64 id, .int .i64 flags, .int .i64 off, .int .i64 label, .string opt, .string body]).drew⟩
theorem or_low (a b m : Int) (k : Nat) (hk : m = 2 ^ k) (h0 : 0 ≤ a) (h1 : a % m = 0) (h2 : a < 4611686018427387904) (h3 : 0 ≤ b) (h4 : b < m) (h5 : b < 4611686018427387904) : bits .or .i64 a b = a + b := by
  subst hk
  exact bits_join .i64 63 (by decide) (fun n a b => IntWalk.i64_in n (by omega)) k _ _ h0 h1 (by omega) h3 h4 (by omega)
def head4B (opt body src dst : ByteArray) (proto hops cls id flags off : Int) : ByteArray :=
  bs (64 + (20 + (opt.size : Int)) / 4) 1 ++ bs cls 1 ++ bs (20 + (opt.size : Int) + body.size) 2 ++ bs id 2 ++ bs (8192 * flags + off) 2 ++ bs hops 1 ++ bs proto 1 ++ bs 0 2 ++ src ++ dst ++ opt
set_option maxRecDepth 100000 in
set_option maxHeartbeats 3200000 in
theorem head4_any (v : Int) (src dst : ByteArray) (proto hops cls id flags off label : Int) (opt body : ByteArray) (w : World) (hs : src.size = 4) (hd : dst.size = 4) (hc : 0 ≤ cls ∧ cls ≤ 255) (hp : 0 ≤ proto ∧ proto ≤ 255) (hh : 0 ≤ hops ∧ hops ≤ 255)
    (hi : 0 ≤ id ∧ id ≤ 65535) (hf : 0 ≤ flags ∧ flags ≤ 3) (ho : 0 ≤ off ∧ off ≤ 8191) (hop : opt.size ≤ 40) (hb : 20 + opt.size + body.size ≤ 65535) :
    Calls Try.prog 49 #[.agg #[.int .i64 v, .string src, .string dst, .int .i64 proto, .int .i64 hops, .int .i64 cls, .int .i64 id, .int .i64 flags, .int .i64 off, .int .i64 label, .string opt, .string body]] w fun e w' => e = .returned (.string (head4B opt body src dst proto hops cls id flags off)) ∧ Below w.heap.size w w' := by
  unfold head4B
  have o1 : bits .or .i64 64 ((20 + (opt.size : Int)) / 4) = 64 + (20 + (opt.size : Int)) / 4 := or_low _ _ 64 6 (by decide) (by omega) (by decide) (by omega) (by omega) (by omega) (by omega)
  have o2 : bits .or .i64 (flags * 8192) off = 8192 * flags + off := (or_low _ _ 8192 13 (by decide) (by omega) (by omega) (by omega) (by omega) (by omega) (by omega)).trans (by omega)
  have w1 : IntKind.i64.wrap (flags * 8192) = flags * 8192 := IntWalk.i64_in _ (by omega)
  have w2 : IntKind.i64.wrap (20 + (opt.size : Int) + body.size) = 20 + (opt.size : Int) + body.size := IntWalk.i64_in _ (by omega)
  have w3 : IntKind.i64.wrap ((20 + (opt.size : Int)) / 4) = (20 + (opt.size : Int)) / 4 := IntWalk.i64_in _ (by omega)
  have w4 : (20 + (opt.size : Int)).tdiv 4 = (20 + (opt.size : Int)) / 4 := Int.tdiv_eq_ediv_of_nonneg (by omega)
  have A1 := fun W => put4_1 (64 + (20 + (opt.size : Int)) / 4) W (by omega) (by omega)
  have A2 := fun W => put4_1 cls W (by omega) (by omega)
  have A3 := fun W => put4_2 (20 + (opt.size : Int) + body.size) W (by omega) (by omega)
  have A4 := fun W => put4_2 id W (by omega) (by omega)
  have A5 := fun W => put4_2 (8192 * flags + off) W (by omega) (by omega)
  have A6 := fun W => put4_1 hops W (by omega) (by omega)
  have A7 := fun W => put4_1 proto W (by omega) (by omega)
  have A8 := fun W => put4_2 0 W (by omega) (by omega)
  have s1 := Nat.le_of_eq (bs_size (64 + (20 + (opt.size : Int)) / 4) 1)
  have s2 := Nat.le_of_eq (bs_size cls 1)
  have s3 := Nat.le_of_eq (bs_size (20 + (opt.size : Int) + body.size) 2)
  have s4 := Nat.le_of_eq (bs_size id 2)
  have s5 := Nat.le_of_eq (bs_size (8192 * flags + off) 2)
  have s6 := Nat.le_of_eq (bs_size hops 1)
  have s7 := Nat.le_of_eq (bs_size proto 1)
  have s8 := Nat.le_of_eq (bs_size 0 2)
  have s9 := Nat.le_of_eq hs
  have s10 := Nat.le_of_eq hd
  generalize bs (64 + (20 + (opt.size : Int)) / 4) 1 = T1 at *
  generalize bs cls 1 = T2 at *
  generalize bs (20 + (opt.size : Int) + body.size) 2 = T3 at *
  generalize bs id 2 = T4 at *
  generalize bs (8192 * flags + off) 2 = T5 at *
  generalize bs hops 1 = T6 at *
  generalize bs proto 1 = T7 at *
  generalize bs 0 2 = T8 at *
  have H1 := Lib.hid A1
  have H2 := Lib.hid A2
  have H3 := Lib.hid A3
  have H4 := Lib.hid A4
  have H5 := Lib.hid A5
  have H6 := Lib.hid A6
  have H7 := Lib.hid A7
  have H8 := Lib.hid A8
  clear A1 A2 A3 A4 A5 A6 A7 A8 hs hd hc hp hh hi
  have z2 : ¬ 9223372036854775807 < T1.size + T2.size := by omega
  have z3 : ¬ 9223372036854775807 < T1.size + T2.size + T3.size := by omega
  have z4 : ¬ 9223372036854775807 < T1.size + T2.size + T3.size + T4.size := by omega
  have z5 : ¬ 9223372036854775807 < T1.size + T2.size + T3.size + T4.size + T5.size := by omega
  have z6 : ¬ 9223372036854775807 < T1.size + T2.size + T3.size + T4.size + T5.size + T6.size := by omega
  have z7 : ¬ 9223372036854775807 < T1.size + T2.size + T3.size + T4.size + T5.size + T6.size + T7.size := by omega
  have z8 : ¬ 9223372036854775807 < T1.size + T2.size + T3.size + T4.size + T5.size + T6.size + T7.size + T8.size := by omega
  have z9 : ¬ 9223372036854775807 < T1.size + T2.size + T3.size + T4.size + T5.size + T6.size + T7.size + T8.size + src.size := by omega
  have z10 : ¬ 9223372036854775807 < T1.size + T2.size + T3.size + T4.size + T5.size + T6.size + T7.size + T8.size + src.size + dst.size := by omega
  have z11 : ¬ 9223372036854775807 < T1.size + T2.size + T3.size + T4.size + T5.size + T6.size + T7.size + T8.size + src.size + dst.size + opt.size := by omega
  go_enter Try.func49, Try.ntmps49
  go_wp2_with fail
  have c0 := pk_new w v src dst proto hops cls id flags off label opt body
  go_region_held3 (fun w' => (w'.cell? ⟨w.heap.size, 0, none⟩ = some (.int .i64 v) ∧ w'.cell? ⟨w.heap.size, 1, none⟩ = some (.string src) ∧ w'.cell? ⟨w.heap.size, 2, none⟩ = some (.string dst) ∧ w'.cell? ⟨w.heap.size, 3, none⟩ = some (.int .i64 proto) ∧ w'.cell? ⟨w.heap.size, 4, none⟩ = some (.int .i64 hops) ∧ w'.cell? ⟨w.heap.size, 5, none⟩ = some (.int .i64 cls) ∧ w'.cell? ⟨w.heap.size, 6, none⟩ = some (.int .i64 id) ∧ w'.cell? ⟨w.heap.size, 7, none⟩ = some (.int .i64 flags) ∧ w'.cell? ⟨w.heap.size, 8, none⟩ = some (.int .i64 off) ∧ w'.cell? ⟨w.heap.size, 9, none⟩ = some (.int .i64 label) ∧ w'.cell? ⟨w.heap.size, 10, none⟩ = some (.string opt) ∧ w'.cell? ⟨w.heap.size, 11, none⟩ = some (.string body)) ∧ Held w 36 #[.int .i64 v, .string src, .string dst, .int .i64 proto, .int .i64 hops, .int .i64 cls, .int .i64 id, .int .i64 flags, .int .i64 off, .int .i64 label, .string opt, .string body] w')
    (first | exact c0 | assumption | exact pk_next (by assumption) hq)
    (first | (go_at_call 71; (first | (with_reducible refine (H1.out _).mono ?_) | (with_reducible refine (H2.out _).mono ?_) | (with_reducible refine (H3.out _).mono ?_) | (with_reducible refine (H4.out _).mono ?_) | (with_reducible refine (H5.out _).mono ?_) | (with_reducible refine (H6.out _).mono ?_) | (with_reducible refine (H7.out _).mono ?_) | (with_reducible refine (H8.out _).mono ?_)); rintro e w' ⟨rfl, hq⟩))
  all_goals
    rename_i hH
    go_wp2
    go_ret
    exact ⟨rfl, hH.2.below⟩
end Go.Proofs.Ytalkpllmcigjnaa
namespace Go.Proofs.Ytalkpllmcigjnaa
open Go.RowKit

def head6B (body src dst : ByteArray) (proto hops cls label : Int) : ByteArray :=
  bs (1610612736 + cls * 1048576 + label) 4 ++ bs body.size 2 ++ bs proto 1 ++ bs hops 1 ++ src ++ dst
set_option maxRecDepth 100000 in
set_option maxHeartbeats 3200000 in
theorem head6_any (v : Int) (src dst : ByteArray) (proto hops cls id flags off label : Int) (opt body : ByteArray) (w : World) (hs : src.size = 16) (hd : dst.size = 16) (hc : 0 ≤ cls ∧ cls ≤ 255) (hp : 0 ≤ proto ∧ proto ≤ 255) (hh : 0 ≤ hops ∧ hops ≤ 255)
    (hl : 0 ≤ label ∧ label ≤ 1048575) (hb : body.size ≤ 65535) :
    Calls Try.prog 51 #[.agg #[.int .i64 v, .string src, .string dst, .int .i64 proto, .int .i64 hops, .int .i64 cls, .int .i64 id, .int .i64 flags, .int .i64 off, .int .i64 label, .string opt, .string body]] w fun e w' => e = .returned (.string (head6B body src dst proto hops cls label)) ∧ Below w.heap.size w w' := by
  unfold head6B
  have o1 : bits .or .i64 1610612736 (cls * 1048576) = 1610612736 + cls * 1048576 := or_low _ _ 268435456 28 (by decide) (by omega) (by decide) (by omega) (by omega) (by omega) (by omega)
  have o2 : bits .or .i64 (1610612736 + cls * 1048576) label = 1610612736 + cls * 1048576 + label := or_low _ _ 1048576 20 (by decide) (by omega) (by omega) (by omega) (by omega) (by omega) (by omega)
  have w1 : IntKind.i64.wrap (cls * 1048576) = cls * 1048576 := IntWalk.i64_in _ (by omega)
  have A1 := fun W => put4_4 (1610612736 + cls * 1048576 + label) W (by omega) (by omega)
  have A2 := fun W => put4_2 body.size W (by omega) (by omega)
  have A3 := fun W => put4_1 proto W (by omega) (by omega)
  have A4 := fun W => put4_1 hops W (by omega) (by omega)
  have s1 := Nat.le_of_eq (bs_size (1610612736 + cls * 1048576 + label) 4)
  have s2 := Nat.le_of_eq (bs_size body.size 2)
  have s3 := Nat.le_of_eq (bs_size proto 1)
  have s4 := Nat.le_of_eq (bs_size hops 1)
  have s9 := Nat.le_of_eq hs
  have s10 := Nat.le_of_eq hd
  generalize bs (1610612736 + cls * 1048576 + label) 4 = T1 at *
  generalize bs body.size 2 = T2 at *
  generalize bs proto 1 = T3 at *
  generalize bs hops 1 = T4 at *
  have H1 := Lib.hid A1
  have H2 := Lib.hid A2
  have H3 := Lib.hid A3
  have H4 := Lib.hid A4
  clear A1 A2 A3 A4 hs hd hc hp hh hl
  have z2 : ¬ 9223372036854775807 < T1.size + T2.size := by omega
  have z3 : ¬ 9223372036854775807 < T1.size + T2.size + T3.size := by omega
  have z4 : ¬ 9223372036854775807 < T1.size + T2.size + T3.size + T4.size := by omega
  have z5 : ¬ 9223372036854775807 < T1.size + T2.size + T3.size + T4.size + src.size := by omega
  have z6 : ¬ 9223372036854775807 < T1.size + T2.size + T3.size + T4.size + src.size + dst.size := by omega
  go_enter Try.func51, Try.ntmps51
  go_wp2_with fail
  have c0 := pk_new w v src dst proto hops cls id flags off label opt body
  go_region_held3 (fun w' => (w'.cell? ⟨w.heap.size, 0, none⟩ = some (.int .i64 v) ∧ w'.cell? ⟨w.heap.size, 1, none⟩ = some (.string src) ∧ w'.cell? ⟨w.heap.size, 2, none⟩ = some (.string dst) ∧ w'.cell? ⟨w.heap.size, 3, none⟩ = some (.int .i64 proto) ∧ w'.cell? ⟨w.heap.size, 4, none⟩ = some (.int .i64 hops) ∧ w'.cell? ⟨w.heap.size, 5, none⟩ = some (.int .i64 cls) ∧ w'.cell? ⟨w.heap.size, 6, none⟩ = some (.int .i64 id) ∧ w'.cell? ⟨w.heap.size, 7, none⟩ = some (.int .i64 flags) ∧ w'.cell? ⟨w.heap.size, 8, none⟩ = some (.int .i64 off) ∧ w'.cell? ⟨w.heap.size, 9, none⟩ = some (.int .i64 label) ∧ w'.cell? ⟨w.heap.size, 10, none⟩ = some (.string opt) ∧ w'.cell? ⟨w.heap.size, 11, none⟩ = some (.string body)) ∧ Held w 36 #[.int .i64 v, .string src, .string dst, .int .i64 proto, .int .i64 hops, .int .i64 cls, .int .i64 id, .int .i64 flags, .int .i64 off, .int .i64 label, .string opt, .string body] w')
    (first | exact c0 | assumption | exact pk_next (by assumption) hq)
    (first | (go_at_call 71; (first | (with_reducible refine (H1.out _).mono ?_) | (with_reducible refine (H2.out _).mono ?_) | (with_reducible refine (H3.out _).mono ?_) | (with_reducible refine (H4.out _).mono ?_)); rintro e w' ⟨rfl, hq⟩))
  all_goals
    rename_i hH
    go_wp2
    go_ret
    exact ⟨rfl, hH.2.below⟩
set_option maxRecDepth 100000 in
set_option maxHeartbeats 3200000 in
theorem pseudo_4 (src dst : ByteArray) (proto hops cls id flags off label : Int) (opt body : ByteArray) (n : Int) (w : World) (hs : src.size = 4) (hd : dst.size = 4) (hp : 0 ≤ proto ∧ proto ≤ 255) (hn : 0 ≤ n ∧ n ≤ 65535) :
    Calls Try.prog 32 #[.agg #[.int .i64 4, .string src, .string dst, .int .i64 proto, .int .i64 hops, .int .i64 cls, .int .i64 id, .int .i64 flags, .int .i64 off, .int .i64 label, .string opt, .string body], .int .i64 n] w fun e w' => e = .returned (.string (src ++ dst ++ bs 0 1 ++ bs proto 1 ++ bs n 2)) ∧ Below w.heap.size w w' := by
  have A1 := fun W => put4_1 0 W (by omega) (by omega)
  have A2 := fun W => put4_1 proto W (by omega) (by omega)
  have A3 := fun W => put4_2 n W (by omega) (by omega)
  have s1 := Nat.le_of_eq (bs_size 0 1)
  have s2 := Nat.le_of_eq (bs_size proto 1)
  have s3 := Nat.le_of_eq (bs_size n 2)
  have s9 := Nat.le_of_eq hs
  have s10 := Nat.le_of_eq hd
  generalize bs 0 1 = T1 at *
  generalize bs proto 1 = T2 at *
  generalize bs n 2 = T3 at *
  have H1 := Lib.hid A1
  have H2 := Lib.hid A2
  have H3 := Lib.hid A3
  clear A1 A2 A3 hs hd hp
  have z2 : ¬ 9223372036854775807 < src.size + dst.size := by omega
  have z3 : ¬ 9223372036854775807 < src.size + dst.size + T1.size := by omega
  have z4 : ¬ 9223372036854775807 < src.size + dst.size + T1.size + T2.size := by omega
  have z5 : ¬ 9223372036854775807 < src.size + dst.size + T1.size + T2.size + T3.size := by omega
  go_enter Try.func32, Try.ntmps32
  go_wp2_with fail
  have c0 := pk_new w 4 src dst proto hops cls id flags off label opt body
  go_region_held3 (fun w' => (w'.cell? ⟨w.heap.size, 0, none⟩ = some (.int .i64 4) ∧ w'.cell? ⟨w.heap.size, 1, none⟩ = some (.string src) ∧ w'.cell? ⟨w.heap.size, 2, none⟩ = some (.string dst) ∧ w'.cell? ⟨w.heap.size, 3, none⟩ = some (.int .i64 proto) ∧ w'.cell? ⟨w.heap.size, 4, none⟩ = some (.int .i64 hops) ∧ w'.cell? ⟨w.heap.size, 5, none⟩ = some (.int .i64 cls) ∧ w'.cell? ⟨w.heap.size, 6, none⟩ = some (.int .i64 id) ∧ w'.cell? ⟨w.heap.size, 7, none⟩ = some (.int .i64 flags) ∧ w'.cell? ⟨w.heap.size, 8, none⟩ = some (.int .i64 off) ∧ w'.cell? ⟨w.heap.size, 9, none⟩ = some (.int .i64 label) ∧ w'.cell? ⟨w.heap.size, 10, none⟩ = some (.string opt) ∧ w'.cell? ⟨w.heap.size, 11, none⟩ = some (.string body)) ∧ Held w 36 #[.int .i64 4, .string src, .string dst, .int .i64 proto, .int .i64 hops, .int .i64 cls, .int .i64 id, .int .i64 flags, .int .i64 off, .int .i64 label, .string opt, .string body] w')
    (first | exact c0 | assumption | exact pk_next (by assumption) hq)
    (first | (go_at_call 71; (first | (with_reducible refine (H1.out _).mono ?_) | (with_reducible refine (H2.out _).mono ?_) | (with_reducible refine (H3.out _).mono ?_)); rintro e w' ⟨rfl, hq⟩))
  all_goals
    rename_i hH
    go_wp2
    go_ret
    exact ⟨rfl, hH.2.below⟩
set_option maxRecDepth 100000 in
set_option maxHeartbeats 3200000 in
theorem pseudo_6 (src dst : ByteArray) (proto hops cls id flags off label : Int) (opt body : ByteArray) (n : Int) (w : World) (hs : src.size = 16) (hd : dst.size = 16) (hp : 0 ≤ proto ∧ proto ≤ 255) (hn : 0 ≤ n ∧ n ≤ 65535) :
    Calls Try.prog 32 #[.agg #[.int .i64 6, .string src, .string dst, .int .i64 proto, .int .i64 hops, .int .i64 cls, .int .i64 id, .int .i64 flags, .int .i64 off, .int .i64 label, .string opt, .string body], .int .i64 n] w fun e w' => e = .returned (.string (src ++ dst ++ bs n 4 ++ bs 0 3 ++ bs proto 1)) ∧ Below w.heap.size w w' := by
  have A1 := fun W => put4_3 0 W (by omega) (by omega)
  have A2 := fun W => put4_1 proto W (by omega) (by omega)
  have A3 := fun W => put4_4 n W (by omega) (by omega)
  have s1 := Nat.le_of_eq (bs_size 0 3)
  have s2 := Nat.le_of_eq (bs_size proto 1)
  have s3 := Nat.le_of_eq (bs_size n 4)
  have s9 := Nat.le_of_eq hs
  have s10 := Nat.le_of_eq hd
  generalize bs 0 3 = T1 at *
  generalize bs proto 1 = T2 at *
  generalize bs n 4 = T3 at *
  have H1 := Lib.hid A1
  have H2 := Lib.hid A2
  have H3 := Lib.hid A3
  clear A1 A2 A3 hs hd hp
  have z2 : ¬ 9223372036854775807 < src.size + dst.size := by omega
  have z3 : ¬ 9223372036854775807 < src.size + dst.size + T3.size := by omega
  have z4 : ¬ 9223372036854775807 < src.size + dst.size + T3.size + T1.size := by omega
  have z5 : ¬ 9223372036854775807 < src.size + dst.size + T3.size + T1.size + T2.size := by omega
  go_enter Try.func32, Try.ntmps32
  go_wp2_with fail
  have c0 := pk_new w 6 src dst proto hops cls id flags off label opt body
  go_region_held3 (fun w' => (w'.cell? ⟨w.heap.size, 0, none⟩ = some (.int .i64 6) ∧ w'.cell? ⟨w.heap.size, 1, none⟩ = some (.string src) ∧ w'.cell? ⟨w.heap.size, 2, none⟩ = some (.string dst) ∧ w'.cell? ⟨w.heap.size, 3, none⟩ = some (.int .i64 proto) ∧ w'.cell? ⟨w.heap.size, 4, none⟩ = some (.int .i64 hops) ∧ w'.cell? ⟨w.heap.size, 5, none⟩ = some (.int .i64 cls) ∧ w'.cell? ⟨w.heap.size, 6, none⟩ = some (.int .i64 id) ∧ w'.cell? ⟨w.heap.size, 7, none⟩ = some (.int .i64 flags) ∧ w'.cell? ⟨w.heap.size, 8, none⟩ = some (.int .i64 off) ∧ w'.cell? ⟨w.heap.size, 9, none⟩ = some (.int .i64 label) ∧ w'.cell? ⟨w.heap.size, 10, none⟩ = some (.string opt) ∧ w'.cell? ⟨w.heap.size, 11, none⟩ = some (.string body)) ∧ Held w 36 #[.int .i64 6, .string src, .string dst, .int .i64 proto, .int .i64 hops, .int .i64 cls, .int .i64 id, .int .i64 flags, .int .i64 off, .int .i64 label, .string opt, .string body] w')
    (first | exact c0 | assumption | exact pk_next (by assumption) hq)
    (first | (go_at_call 71; (first | (with_reducible refine (H1.out _).mono ?_) | (with_reducible refine (H2.out _).mono ?_) | (with_reducible refine (H3.out _).mono ?_)); rintro e w' ⟨rfl, hq⟩))
  all_goals
    rename_i hH
    go_wp2
    go_ret
    exact ⟨rfl, hH.2.below⟩
end Go.Proofs.Ytalkpllmcigjnaa
namespace Go.Proofs.Ytalkpllmcigjnaa
open Go.RowKit

/-- A segment, taken apart. -/
structure Sg where
  src : Int
  dst : Int
  seq : Int
  ack : Int
  flags : Int
  win : Int
  urgent : Int
  opt : ByteArray
  body : ByteArray
  nosum : Bool
theorem sg_cells {w0 w : World} {gsrc gdst seq ack gflags win urgent : Int} {gopt gbody : ByteArray} {nosum : Bool} (h : Held w0 39 #[.int .i64 gsrc, .int .i64 gdst, .int .u32 seq, .int .u32 ack, .int .i64 gflags, .int .i64 win, .int .i64 urgent, .string gopt, .string gbody, .bool nosum] w) : w.cell? ⟨w0.heap.size, 0, none⟩ = some (.int .i64 gsrc) ∧ w.cell? ⟨w0.heap.size, 1, none⟩ = some (.int .i64 gdst) ∧ w.cell? ⟨w0.heap.size, 2, none⟩ = some (.int .u32 seq) ∧ w.cell? ⟨w0.heap.size, 3, none⟩ = some (.int .u32 ack) ∧ w.cell? ⟨w0.heap.size, 4, none⟩ = some (.int .i64 gflags) ∧ w.cell? ⟨w0.heap.size, 5, none⟩ = some (.int .i64 win) ∧ w.cell? ⟨w0.heap.size, 6, none⟩ = some (.int .i64 urgent) ∧ w.cell? ⟨w0.heap.size, 7, none⟩ = some (.string gopt) ∧ w.cell? ⟨w0.heap.size, 8, none⟩ = some (.string gbody) ∧ w.cell? ⟨w0.heap.size, 9, none⟩ = some (.bool nosum) := ⟨h.blk.cell 0, h.blk.cell 1, h.blk.cell 2, h.blk.cell 3, h.blk.cell 4, h.blk.cell 5, h.blk.cell 6, h.blk.cell 7, h.blk.cell 8, h.blk.cell 9⟩
theorem in58 (v m : Int) (w : World) : Calls Try.prog 59 #[.int .i64 v, .int .i64 m] w fun e w' => e = .returned (.bool (inB v m)) ∧ w = w' := by
  by_cases h : 0 ≤ v
  · go_enter Try.func59, Try.ntmps59
    go_wp2
    go_ret
    exact ⟨ret_bool (by simp [inB, h]), rfl⟩
  · go_enter Try.func59, Try.ntmps59
    go_wp2
    go_ret
    exact ⟨ret_bool (by simp [inB]; omega), rfl⟩
theorem sput_1 (v : Int) (w : World) (h0 : 0 ≤ v) (h1 : v < 256) :
    Calls Try.prog 84 #[.int .i64 v, .int .i64 1] w fun e w' => e = .returned (.string (bs v 1)) ∧ Below w.heap.size w w' := by
  have P : ∀ W, Calls Try.prog 58 #[.int .u64 v, .int .i64 1, .bool true] W fun e w' => e = .returned (.tuple #[.string (bs v 1), .int .i64 0]) ∧ Below W.heap.size W w' := by
    intro W
    obtain ⟨m, rfl⟩ := Int.eq_ofNat_of_zero_le h0
    exact put_ok m 1 true W (by omega) (by omega) (by omega)
  have HP := Lib.hid P
  clear P
  generalize bs v 1 = T at *
  go_enter Try.func84, Try.ntmps84
  go_wp2_with (go_at_call 58; (with_reducible refine (HP.out _).mono ?_); rintro e w' ⟨rfl, hb⟩)
  go_ret
  exact ⟨rfl, hb⟩
theorem sput_2 (v : Int) (w : World) (h0 : 0 ≤ v) (h1 : v < 65536) :
    Calls Try.prog 84 #[.int .i64 v, .int .i64 2] w fun e w' => e = .returned (.string (bs v 2)) ∧ Below w.heap.size w w' := by
  have P : ∀ W, Calls Try.prog 58 #[.int .u64 v, .int .i64 2, .bool true] W fun e w' => e = .returned (.tuple #[.string (bs v 2), .int .i64 0]) ∧ Below W.heap.size W w' := by
    intro W
    obtain ⟨m, rfl⟩ := Int.eq_ofNat_of_zero_le h0
    exact put_ok m 2 true W (by omega) (by omega) (by omega)
  have HP := Lib.hid P
  clear P
  generalize bs v 2 = T at *
  go_enter Try.func84, Try.ntmps84
  go_wp2_with (go_at_call 58; (with_reducible refine (HP.out _).mono ?_); rintro e w' ⟨rfl, hb⟩)
  go_ret
  exact ⟨rfl, hb⟩
theorem sput_4 (v : Int) (w : World) (h0 : 0 ≤ v) (h1 : v < 4294967296) :
    Calls Try.prog 84 #[.int .i64 v, .int .i64 4] w fun e w' => e = .returned (.string (bs v 4)) ∧ Below w.heap.size w w' := by
  have P : ∀ W, Calls Try.prog 58 #[.int .u64 v, .int .i64 4, .bool true] W fun e w' => e = .returned (.tuple #[.string (bs v 4), .int .i64 0]) ∧ Below W.heap.size W w' := by
    intro W
    obtain ⟨m, rfl⟩ := Int.eq_ofNat_of_zero_le h0
    exact put_ok m 4 true W (by omega) (by omega) (by omega)
  have HP := Lib.hid P
  clear P
  generalize bs v 4 = T at *
  go_enter Try.func84, Try.ntmps84
  go_wp2_with (go_at_call 58; (with_reducible refine (HP.out _).mono ?_); rintro e w' ⟨rfl, hb⟩)
  go_ret
  exact ⟨rfl, hb⟩
def faultV (n : Int) : Value := .iface 95 (.agg #[.int .i64 n])
theorem req_yes (n : Int) (w : World) : Calls Try.prog 43 #[.bool true, .int .i64 n] w fun e w' => e = .returned (.tuple #[]) ∧ w = w' := by
  go_enter Try.func43, Try.ntmps43
  go_wp2
  go_end0
  exact ⟨rfl, rfl⟩
theorem req_no (n : Int) (w : World) : Calls Try.prog 43 #[.bool false, .int .i64 n] w fun e w' => e = .panicked [{ v := faultV n, recovered := false }] ∧ w = w' := by
  go_enter Try.func43, Try.ntmps43
  go_wp2
  exact ⟨rfl, rfl, rfl⟩
def hasB (v : Int) (src dst : ByteArray) : Bool := if v = 4 then decide (src.size = 4) && decide (dst.size = 4) else if v = 6 then decide (src.size = 16) && decide (dst.size = 16) else false
theorem has_any (v : Int) (src dst : ByteArray) (proto hops cls id flags off label : Int) (opt body : ByteArray) (w : World) : Calls Try.prog 83 #[.agg #[.int .i64 v, .string src, .string dst, .int .i64 proto, .int .i64 hops, .int .i64 cls, .int .i64 id, .int .i64 flags, .int .i64 off, .int .i64 label, .string opt, .string body]] w fun e w' => e = .returned (.bool (hasB v src dst)) ∧ Below w.heap.size w w' := by
  unfold hasB
  have key : ∀ (a : ByteArray) (n : Nat), ((a.size : Int) == (n : Int)) = decide (a.size = n) := fun a n => by rw [Bool.eq_iff_iff]; simp; omega
  by_cases h4 : v = 4
  · subst h4
    rw [if_pos rfl]
    have k1 : ((src.size : Int) == 4) = decide (src.size = 4) := key src 4
    have k2 : ((dst.size : Int) == 4) = decide (dst.size = 4) := key dst 4
    generalize decide (src.size = 4) = b1 at *
    generalize decide (dst.size = 4) = b2 at *
    clear key
    cases b1
    · go_enter Try.func83, Try.ntmps83
      go_wp2
      go_ret
      exact ⟨rfl, (Below.refl _ _).alloc (Nat.le_refl _) _⟩
    · go_enter Try.func83, Try.ntmps83
      go_wp2
      go_ret
      exact ⟨rfl, (Below.refl _ _).alloc (Nat.le_refl _) _⟩
  · rw [if_neg h4]
    have e4 : (v == 4) = false := by simpa using h4
    by_cases h6 : v = 6
    · subst h6
      rw [if_pos rfl]
      have k1 : ((src.size : Int) == 16) = decide (src.size = 16) := key src 16
      have k2 : ((dst.size : Int) == 16) = decide (dst.size = 16) := key dst 16
      generalize decide (src.size = 16) = b1 at *
      generalize decide (dst.size = 16) = b2 at *
      clear key
      cases b1
      · go_enter Try.func83, Try.ntmps83
        go_wp2
        go_ret
        exact ⟨rfl, (Below.refl _ _).alloc (Nat.le_refl _) _⟩
      · go_enter Try.func83, Try.ntmps83
        go_wp2
        go_ret
        exact ⟨rfl, (Below.refl _ _).alloc (Nat.le_refl _) _⟩
    · rw [if_neg h6]
      have e6 : (v == 6) = false := by simpa using h6
      go_enter Try.func83, Try.ntmps83
      go_wp2
      go_ret
      exact ⟨rfl, (Below.refl _ _).alloc (Nat.le_refl _) _⟩
theorem low1 (n : Int) : bits .and .i64 n 1 = n % 2 := by
  have e : (BitVec.ofInt 64 1).toNat = 2 ^ 1 - 1 := by decide
  have k : (BitVec.ofInt 64 n &&& BitVec.ofInt 64 1).toNat = (n % ((2 ^ 64 : Nat) : Int)).toNat % 2 ^ 1 := by
    rw [BitVec.toNat_and, BitVec.toNat_ofInt, e, Nat.and_two_pow_sub_one_eq_mod]
  show IntKind.i64.wrap ((BitVec.ofInt 64 n &&& BitVec.ofInt 64 1).toNat : Nat) = n % 2
  rw [k, IntKind.wrap_i64]
  omega
set_option maxHeartbeats 3200000 in
theorem can_walk (v : Int) (src dst : ByteArray) (proto hops cls id flags off label : Int) (opt body : ByteArray) (w : World) (b0 b1 b2 b3 b4 : Bool) (A1 : ∀ W, Calls Try.prog 83 #[.agg #[.int .i64 v, .string src, .string dst, .int .i64 proto, .int .i64 hops, .int .i64 cls, .int .i64 id, .int .i64 flags, .int .i64 off, .int .i64 label, .string opt, .string body]] W fun e w' => e = .returned (.bool b0) ∧ Below W.heap.size W w')
    (h1 : (proto == 6) = b1) (h2 : (proto == 17) = b2) (h3 : (off == 0) = b3) (h4 : (bits .and .i64 flags 1 == 0) = b4) :
    Calls Try.prog 44 #[.agg #[.int .i64 v, .string src, .string dst, .int .i64 proto, .int .i64 hops, .int .i64 cls, .int .i64 id, .int .i64 flags, .int .i64 off, .int .i64 label, .string opt, .string body]] w fun e w' => e = .returned (.bool (b0 && (b1 || b2) && b3 && b4)) ∧ Below w.heap.size w w' := by
  have H1 := Lib.hid A1
  clear A1
  cases b0
  · go_enter Try.func44, Try.ntmps44
    go_wp2_with fail
    refine (H1.out _).mono ?_
    rintro e w1 ⟨rfl, hb⟩
    have hS := (Held.new w 36 #[.int .i64 v, .string src, .string dst, .int .i64 proto, .int .i64 hops, .int .i64 cls, .int .i64 id, .int .i64 flags, .int .i64 off, .int .i64 label, .string opt, .string body]).next hb
    obtain ⟨c0, c1, c2, c3, c4, c5, c6, c7, c8, c9, c10, c11⟩ := pk_cells hS
    clear hb
    go_wp2_with fail
    go_ret
    exact ⟨rfl, hS.below⟩
  cases b1
  · cases b2
    · go_enter Try.func44, Try.ntmps44
      go_wp2_with fail
      refine (H1.out _).mono ?_
      rintro e w1 ⟨rfl, hb⟩
      have hS := (Held.new w 36 #[.int .i64 v, .string src, .string dst, .int .i64 proto, .int .i64 hops, .int .i64 cls, .int .i64 id, .int .i64 flags, .int .i64 off, .int .i64 label, .string opt, .string body]).next hb
      obtain ⟨c0, c1, c2, c3, c4, c5, c6, c7, c8, c9, c10, c11⟩ := pk_cells hS
      clear hb
      go_wp2_with fail
      go_ret
      exact ⟨rfl, hS.below⟩
    · cases b3
      · go_enter Try.func44, Try.ntmps44
        go_wp2_with fail
        refine (H1.out _).mono ?_
        rintro e w1 ⟨rfl, hb⟩
        have hS := (Held.new w 36 #[.int .i64 v, .string src, .string dst, .int .i64 proto, .int .i64 hops, .int .i64 cls, .int .i64 id, .int .i64 flags, .int .i64 off, .int .i64 label, .string opt, .string body]).next hb
        obtain ⟨c0, c1, c2, c3, c4, c5, c6, c7, c8, c9, c10, c11⟩ := pk_cells hS
        clear hb
        go_wp2_with fail
        go_ret
        exact ⟨rfl, hS.below⟩
      · go_enter Try.func44, Try.ntmps44
        go_wp2_with fail
        refine (H1.out _).mono ?_
        rintro e w1 ⟨rfl, hb⟩
        have hS := (Held.new w 36 #[.int .i64 v, .string src, .string dst, .int .i64 proto, .int .i64 hops, .int .i64 cls, .int .i64 id, .int .i64 flags, .int .i64 off, .int .i64 label, .string opt, .string body]).next hb
        obtain ⟨c0, c1, c2, c3, c4, c5, c6, c7, c8, c9, c10, c11⟩ := pk_cells hS
        clear hb
        go_wp2_with fail
        go_ret
        exact ⟨rfl, hS.below⟩
  · cases b3
    · go_enter Try.func44, Try.ntmps44
      go_wp2_with fail
      refine (H1.out _).mono ?_
      rintro e w1 ⟨rfl, hb⟩
      have hS := (Held.new w 36 #[.int .i64 v, .string src, .string dst, .int .i64 proto, .int .i64 hops, .int .i64 cls, .int .i64 id, .int .i64 flags, .int .i64 off, .int .i64 label, .string opt, .string body]).next hb
      obtain ⟨c0, c1, c2, c3, c4, c5, c6, c7, c8, c9, c10, c11⟩ := pk_cells hS
      clear hb
      go_wp2_with fail
      go_ret
      exact ⟨rfl, hS.below⟩
    · go_enter Try.func44, Try.ntmps44
      go_wp2_with fail
      refine (H1.out _).mono ?_
      rintro e w1 ⟨rfl, hb⟩
      have hS := (Held.new w 36 #[.int .i64 v, .string src, .string dst, .int .i64 proto, .int .i64 hops, .int .i64 cls, .int .i64 id, .int .i64 flags, .int .i64 off, .int .i64 label, .string opt, .string body]).next hb
      obtain ⟨c0, c1, c2, c3, c4, c5, c6, c7, c8, c9, c10, c11⟩ := pk_cells hS
      clear hb
      go_wp2_with fail
      go_ret
      exact ⟨rfl, hS.below⟩
def canB (p : Pk) : Bool := hasB p.v p.src p.dst && (p.proto == 6 || p.proto == 17) && (p.off == 0) && (p.flags % 2 == 0)
theorem can_any (p : Pk) (w : World) : Calls Try.prog 44 #[.agg #[.int .i64 p.v, .string p.src, .string p.dst, .int .i64 p.proto, .int .i64 p.hops, .int .i64 p.cls, .int .i64 p.id, .int .i64 p.flags, .int .i64 p.off, .int .i64 p.label, .string p.opt, .string p.body]] w fun e w' => e = .returned (.bool (canB p)) ∧ Below w.heap.size w w' :=
  can_walk _ _ _ _ _ _ _ _ _ _ _ _ w _ _ _ _ _ (has_any _ _ _ _ _ _ _ _ _ _ _ _) rfl rfl rfl (by rw [low1])
end Go.Proofs.Ytalkpllmcigjnaa
namespace Go.Proofs.Ytalkpllmcigjnaa
open Go.RowKit

def tcpB (gflags win urgent : Int) (gopt gbody : ByteArray) (nosum : Bool) : Bool := inB gflags 255 && inB win 65535 && inB urgent 65535 && decide (gopt.size ≤ 40) && decide (gopt.size % 4 = 0) && !nosum && decide (20 + (gopt.size : Int) + gbody.size ≤ 65535)
set_option maxHeartbeats 3200000 in
theorem tcp_any (gsrc gdst seq ack gflags win urgent : Int) (gopt gbody : ByteArray) (nosum : Bool) (w : World) (ho : gopt.size ≤ 140737488351232) (hb : gbody.size ≤ 140737488351232) :
    Calls Try.prog 85 #[.agg #[.int .i64 gsrc, .int .i64 gdst, .int .u32 seq, .int .u32 ack, .int .i64 gflags, .int .i64 win, .int .i64 urgent, .string gopt, .string gbody, .bool nosum]] w fun e w' => e = .returned (.bool (tcpB gflags win urgent gopt gbody nosum)) ∧ Below w.heap.size w w' := by
  unfold tcpB
  have A0 := in58 gflags 255
  have A1 := in58 win 65535
  have A2 := in58 urgent 65535
  generalize inB gflags 255 = b0 at *
  generalize inB win 65535 = b1 at *
  generalize inB urgent 65535 = b2 at *
  have H0 := Lib.hid A0
  have H1 := Lib.hid A1
  have H2 := Lib.hid A2
  clear A0 A1 A2
  cases b0
  · go_enter Try.func85, Try.ntmps85
    go_wp2_with (go_at_call 59; (first | (with_reducible refine (H0.out _).mono ?_) | (with_reducible refine (H1.out _).mono ?_) | (with_reducible refine (H2.out _).mono ?_)); rintro e w' ⟨rfl, rfl⟩)
    go_ret
    exact ⟨rfl, (Below.refl _ _).alloc (Nat.le_refl _) _⟩
  cases b1
  · go_enter Try.func85, Try.ntmps85
    go_wp2_with (go_at_call 59; (first | (with_reducible refine (H0.out _).mono ?_) | (with_reducible refine (H1.out _).mono ?_) | (with_reducible refine (H2.out _).mono ?_)); rintro e w' ⟨rfl, rfl⟩)
    go_ret
    exact ⟨rfl, (Below.refl _ _).alloc (Nat.le_refl _) _⟩
  cases b2
  · go_enter Try.func85, Try.ntmps85
    go_wp2_with (go_at_call 59; (first | (with_reducible refine (H0.out _).mono ?_) | (with_reducible refine (H1.out _).mono ?_) | (with_reducible refine (H2.out _).mono ?_)); rintro e w' ⟨rfl, rfl⟩)
    go_ret
    exact ⟨rfl, (Below.refl _ _).alloc (Nat.le_refl _) _⟩
  by_cases h3 : gopt.size ≤ 40
  · rw [decide_eq_true h3]
    by_cases h4 : gopt.size % 4 = 0
    · rw [decide_eq_true h4]
      have ht : (gopt.size : Int).tmod 4 = 0 := by rw [Int.tmod_eq_emod_of_nonneg (by omega)]; omega
      cases nosum
      · go_enter Try.func85, Try.ntmps85
        go_wp2_with (go_at_call 59; (first | (with_reducible refine (H0.out _).mono ?_) | (with_reducible refine (H1.out _).mono ?_) | (with_reducible refine (H2.out _).mono ?_)); rintro e w' ⟨rfl, rfl⟩)
        go_ret
        exact ⟨rfl, (Below.refl _ _).alloc (Nat.le_refl _) _⟩
      · go_enter Try.func85, Try.ntmps85
        go_wp2_with (go_at_call 59; (first | (with_reducible refine (H0.out _).mono ?_) | (with_reducible refine (H1.out _).mono ?_) | (with_reducible refine (H2.out _).mono ?_)); rintro e w' ⟨rfl, rfl⟩)
        go_ret
        exact ⟨rfl, (Below.refl _ _).alloc (Nat.le_refl _) _⟩
    · rw [decide_eq_false h4]
      have ht : ((gopt.size : Int).tmod 4 == 0) = false := by rw [Int.tmod_eq_emod_of_nonneg (by omega)]; simpa using (by omega : (gopt.size : Int) % 4 ≠ 0)
      go_enter Try.func85, Try.ntmps85
      go_wp2_with (go_at_call 59; (first | (with_reducible refine (H0.out _).mono ?_) | (with_reducible refine (H1.out _).mono ?_) | (with_reducible refine (H2.out _).mono ?_)); rintro e w' ⟨rfl, rfl⟩)
      go_ret
      exact ⟨rfl, (Below.refl _ _).alloc (Nat.le_refl _) _⟩
  · rw [decide_eq_false h3]
    go_enter Try.func85, Try.ntmps85
    go_wp2_with (go_at_call 59; (first | (with_reducible refine (H0.out _).mono ?_) | (with_reducible refine (H1.out _).mono ?_) | (with_reducible refine (H2.out _).mono ?_)); rintro e w' ⟨rfl, rfl⟩)
    go_ret
    exact ⟨rfl, (Below.refl _ _).alloc (Nat.le_refl _) _⟩
set_option maxHeartbeats 3200000 in
theorem udp_walk (gsrc gdst seq ack gflags win urgent : Int) (gopt gbody : ByteArray) (nosum : Bool) (v : Int) (w : World) (b0 b1 b2 b3 b4 b5 b6 b7 : Bool) (h0 : (seq == 0) = b0) (h1 : (ack == 0) = b1) (h2 : (gflags == 0) = b2) (h3 : (win == 0) = b3) (h4 : (urgent == 0) = b4) (h5 : (gopt.toList == []) = b5) (h6 : (v == 4) = b6)
    (hb : gbody.size ≤ 140737488351232) (h7 : decide (8 + (gbody.size : Int) ≤ 65535) = b7) :
    Calls Try.prog 87 #[.agg #[.int .i64 gsrc, .int .i64 gdst, .int .u32 seq, .int .u32 ack, .int .i64 gflags, .int .i64 win, .int .i64 urgent, .string gopt, .string gbody, .bool nosum], .int .i64 v] w fun e w' => e = .returned (.bool (b0 && b1 && b2 && b3 && b4 && b5 && (!nosum || b6) && b7)) ∧ Below w.heap.size w w' := by
  cases b0
  · go_enter Try.func87, Try.ntmps87
    go_wp2_with fail
    go_ret
    exact ⟨rfl, (Below.refl _ _).alloc (Nat.le_refl _) _⟩
  cases b1
  · go_enter Try.func87, Try.ntmps87
    go_wp2_with fail
    go_ret
    exact ⟨rfl, (Below.refl _ _).alloc (Nat.le_refl _) _⟩
  cases b2
  · go_enter Try.func87, Try.ntmps87
    go_wp2_with fail
    go_ret
    exact ⟨rfl, (Below.refl _ _).alloc (Nat.le_refl _) _⟩
  cases b3
  · go_enter Try.func87, Try.ntmps87
    go_wp2_with fail
    go_ret
    exact ⟨rfl, (Below.refl _ _).alloc (Nat.le_refl _) _⟩
  cases b4
  · go_enter Try.func87, Try.ntmps87
    go_wp2_with fail
    go_ret
    exact ⟨rfl, (Below.refl _ _).alloc (Nat.le_refl _) _⟩
  cases b5
  · go_enter Try.func87, Try.ntmps87
    go_wp2_with fail
    go_ret
    exact ⟨rfl, (Below.refl _ _).alloc (Nat.le_refl _) _⟩
  cases nosum
  · go_enter Try.func87, Try.ntmps87
    go_wp2_with fail
    go_ret
    exact ⟨rfl, (Below.refl _ _).alloc (Nat.le_refl _) _⟩
  · cases b6
    · go_enter Try.func87, Try.ntmps87
      go_wp2_with fail
      go_ret
      exact ⟨rfl, (Below.refl _ _).alloc (Nat.le_refl _) _⟩
    · go_enter Try.func87, Try.ntmps87
      go_wp2_with fail
      go_ret
      exact ⟨rfl, (Below.refl _ _).alloc (Nat.le_refl _) _⟩
def udpB (seq ack gflags win urgent : Int) (gopt gbody : ByteArray) (nosum : Bool) (v : Int) : Bool := (seq == 0) && (ack == 0) && (gflags == 0) && (win == 0) && (urgent == 0) && (gopt.toList == []) && (!nosum || (v == 4)) && decide (8 + (gbody.size : Int) ≤ 65535)
theorem udp_any (gsrc gdst seq ack gflags win urgent : Int) (gopt gbody : ByteArray) (nosum : Bool) (v : Int) (w : World) (hb : gbody.size ≤ 140737488351232) :
    Calls Try.prog 87 #[.agg #[.int .i64 gsrc, .int .i64 gdst, .int .u32 seq, .int .u32 ack, .int .i64 gflags, .int .i64 win, .int .i64 urgent, .string gopt, .string gbody, .bool nosum], .int .i64 v] w fun e w' => e = .returned (.bool (udpB seq ack gflags win urgent gopt gbody nosum v)) ∧ Below w.heap.size w w' :=
  udp_walk _ _ _ _ _ _ _ _ _ _ v w _ _ _ _ _ _ _ _ rfl rfl rfl rfl rfl rfl rfl hb rfl
def atV (proto : Int) : Nat := if proto = 6 then 16 else 6
theorem sumAt_any (v : Int) (src dst : ByteArray) (proto hops cls id flags off label : Int) (opt body : ByteArray) (w : World) : Calls Try.prog 109 #[.agg #[.int .i64 v, .string src, .string dst, .int .i64 proto, .int .i64 hops, .int .i64 cls, .int .i64 id, .int .i64 flags, .int .i64 off, .int .i64 label, .string opt, .string body]] w fun e w' => e = .returned (.int .i64 (atV proto)) ∧ Below w.heap.size w w' := by
  unfold atV
  by_cases h : proto = 6
  · subst h
    go_enter Try.func109, Try.ntmps109
    go_wp2
    go_ret
    exact ⟨rfl, (Below.refl _ _).alloc (Nat.le_refl _) _⟩
  · rw [if_neg h]
    have e : (proto == 6) = false := by simpa using h
    go_enter Try.func109, Try.ntmps109
    go_wp2
    go_ret
    exact ⟨rfl, (Below.refl _ _).alloc (Nat.le_refl _) _⟩
/-- The checksum as a segment has it. -/
def segSum (s : ByteArray) : Int := if 65535 - onS 0 s = 0 then 65535 else 65535 - onS 0 s
theorem segSum_range (s : ByteArray) : 0 ≤ segSum s ∧ segSum s ≤ 65535 := by
  have hr := onS_range s 0 (by omega) (by omega)
  unfold segSum; split <;> omega
theorem sumOf_any (s : ByteArray) (w : World) (hs : s.size ≤ 281474976710656) : Calls Try.prog 60 #[.string s] w fun e w' => e = .returned (.int .u16 (segSum s)) ∧ Below w.heap.size w w' := by
  have hr := onS_range s 0 (by omega) (by omega)
  have A := fun W => sum_any s W (by unfold maxLen; omega)
  unfold segSum
  obtain ⟨V, hV⟩ : ∃ V : Int, 65535 - onS 0 s = V := ⟨_, rfl⟩
  rw [hV] at A ⊢
  have HA := Lib.hid A
  clear A hV hr
  by_cases h : V = 0
  · subst h
    go_enter Try.func60, Try.ntmps60
    go_wp2_with (go_at_call 92; (with_reducible refine (HA.out _).mono ?_); rintro e w' ⟨rfl, hb⟩)
    go_ret
    exact ⟨rfl, hb⟩
  · rw [if_neg h]
    have e : (V == 0) = false := by simpa using h
    go_enter Try.func60, Try.ntmps60
    go_wp2_with (go_at_call 92; (with_reducible refine (HA.out _).mono ?_); rintro e w' ⟨rfl, hb⟩)
    go_ret
    exact ⟨rfl, hb⟩
/-- s with a sum at its place. -/
def withS (s : ByteArray) (a : Nat) (v : Int) : ByteArray := s.extract 0 a ++ bs v 2 ++ s.extract (a + 2) s.size
theorem withS_size (s : ByteArray) (a : Nat) (v : Int) (h : a + 2 ≤ s.size) : (withS s a v).size = s.size := by
  unfold withS
  simp only [ByteArray.size_append, ByteArray.size_extract, bs_size]; omega
theorem setS2 (s : ByteArray) (a : Nat) (v : Int) (w : World) (hs : s.size ≤ 281474976710656) (h12 : a + 2 ≤ s.size) (h0 : 0 ≤ v) (h1 : v ≤ 65535) :
    Calls Try.prog 33 #[.string s, .int .i64 a, .int .u64 v, .int .i64 2, .bool true] w fun e w' => e = .returned (.tuple #[.string (withS s a v), .int .i64 0]) ∧ Below w.heap.size w w' := by
  have hp : 1 ≤ (2 : Int) ∧ (2 : Int) ≤ 8 ∧ v < 256 ^ (2 : Int).toNat := ⟨by omega, by omega, by show v < 65536; omega⟩
  have e1 : putE v 2 = 0 := by rw [putE, if_pos hp]
  have e2 : putS v 2 true = bs v 2 := by rw [putS, if_pos hp]; rfl
  have := set_ok s a v 2 true w hs h0 (by omega) (by omega) e1 (by omega)
  rw [show ((2 : Nat) : Int) = 2 from rfl, e2] at this
  exact this
theorem withSum_any (v : Int) (src dst : ByteArray) (proto hops cls id flags off label : Int) (opt body : ByteArray) (s : ByteArray) (x : Int) (w : World) (hs : s.size ≤ 281474976710656) (h12 : atV proto + 2 ≤ s.size) (h0 : 0 ≤ x) (h1 : x ≤ 65535) :
    Calls Try.prog 88 #[.agg #[.int .i64 v, .string src, .string dst, .int .i64 proto, .int .i64 hops, .int .i64 cls, .int .i64 id, .int .i64 flags, .int .i64 off, .int .i64 label, .string opt, .string body], .string s, .int .u16 x] w fun e w' => e = .returned (.string (withS s (atV proto) x)) ∧ Below w.heap.size w w' := by
  have A1 := fun W => sumAt_any v src dst proto hops cls id flags off label opt body W
  have A2 := fun W => setS2 s (atV proto) x W hs h12 h0 h1
  generalize withS s (atV proto) x = Y at *
  generalize atV proto = a at *
  have H1 := Lib.hid A1
  have H2 := Lib.hid A2
  clear A1 A2 hs h12
  go_enter Try.func88, Try.ntmps88
  go_wp2_with fail
  refine (H1.out _).mono ?_
  rintro e w1 ⟨rfl, hq⟩
  have hS := (Held.new w 36 #[.int .i64 v, .string src, .string dst, .int .i64 proto, .int .i64 hops, .int .i64 cls, .int .i64 id, .int .i64 flags, .int .i64 off, .int .i64 label, .string opt, .string body]).next hq
  clear hq
  go_wp2_with fail
  refine (H2.out _).mono ?_
  rintro e w2 ⟨rfl, hq⟩
  have hS2 := hS.next hq
  clear hq hS
  go_wp2_with fail
  go_ret
  exact ⟨rfl, hS2.below⟩
end Go.Proofs.Ytalkpllmcigjnaa
namespace Go.Proofs.Ytalkpllmcigjnaa
open Go.RowKit

theorem sg_next {w w1 w' : World} {gsrc gdst seq ack gflags win urgent : Int} {gopt gbody : ByteArray} {nosum : Bool} (h : (w1.cell? ⟨w.heap.size, 0, none⟩ = some (.int .i64 gsrc) ∧ w1.cell? ⟨w.heap.size, 1, none⟩ = some (.int .i64 gdst) ∧ w1.cell? ⟨w.heap.size, 2, none⟩ = some (.int .u32 seq) ∧ w1.cell? ⟨w.heap.size, 3, none⟩ = some (.int .u32 ack) ∧ w1.cell? ⟨w.heap.size, 4, none⟩ = some (.int .i64 gflags) ∧ w1.cell? ⟨w.heap.size, 5, none⟩ = some (.int .i64 win) ∧ w1.cell? ⟨w.heap.size, 6, none⟩ = some (.int .i64 urgent) ∧ w1.cell? ⟨w.heap.size, 7, none⟩ = some (.string gopt) ∧ w1.cell? ⟨w.heap.size, 8, none⟩ = some (.string gbody) ∧ w1.cell? ⟨w.heap.size, 9, none⟩ = some (.bool nosum)) ∧ Held w 39 #[.int .i64 gsrc, .int .i64 gdst, .int .u32 seq, .int .u32 ack, .int .i64 gflags, .int .i64 win, .int .i64 urgent, .string gopt, .string gbody, .bool nosum] w1) (hq : Below w1.heap.size w1 w') : (w'.cell? ⟨w.heap.size, 0, none⟩ = some (.int .i64 gsrc) ∧ w'.cell? ⟨w.heap.size, 1, none⟩ = some (.int .i64 gdst) ∧ w'.cell? ⟨w.heap.size, 2, none⟩ = some (.int .u32 seq) ∧ w'.cell? ⟨w.heap.size, 3, none⟩ = some (.int .u32 ack) ∧ w'.cell? ⟨w.heap.size, 4, none⟩ = some (.int .i64 gflags) ∧ w'.cell? ⟨w.heap.size, 5, none⟩ = some (.int .i64 win) ∧ w'.cell? ⟨w.heap.size, 6, none⟩ = some (.int .i64 urgent) ∧ w'.cell? ⟨w.heap.size, 7, none⟩ = some (.string gopt) ∧ w'.cell? ⟨w.heap.size, 8, none⟩ = some (.string gbody) ∧ w'.cell? ⟨w.heap.size, 9, none⟩ = some (.bool nosum)) ∧ Held w 39 #[.int .i64 gsrc, .int .i64 gdst, .int .u32 seq, .int .u32 ack, .int .i64 gflags, .int .i64 win, .int .i64 urgent, .string gopt, .string gbody, .bool nosum] w' :=
  ⟨sg_cells (h.2.next hq), h.2.next hq⟩
theorem sg_new (w : World) (gsrc gdst seq ack gflags win urgent : Int) (gopt gbody : ByteArray) (nosum : Bool) : ((w.alloc (.cells #[.int .i64 gsrc, .int .i64 gdst, .int .u32 seq, .int .u32 ack, .int .i64 gflags, .int .i64 win, .int .i64 urgent, .string gopt, .string gbody, .bool nosum] 39)).drew.cell? ⟨w.heap.size, 0, none⟩ = some (.int .i64 gsrc) ∧ (w.alloc (.cells #[.int .i64 gsrc, .int .i64 gdst, .int .u32 seq, .int .u32 ack, .int .i64 gflags, .int .i64 win, .int .i64 urgent, .string gopt, .string gbody, .bool nosum] 39)).drew.cell? ⟨w.heap.size, 1, none⟩ = some (.int .i64 gdst) ∧ (w.alloc (.cells #[.int .i64 gsrc, .int .i64 gdst, .int .u32 seq, .int .u32 ack, .int .i64 gflags, .int .i64 win, .int .i64 urgent, .string gopt, .string gbody, .bool nosum] 39)).drew.cell? ⟨w.heap.size, 2, none⟩ = some (.int .u32 seq) ∧ (w.alloc (.cells #[.int .i64 gsrc, .int .i64 gdst, .int .u32 seq, .int .u32 ack, .int .i64 gflags, .int .i64 win, .int .i64 urgent, .string gopt, .string gbody, .bool nosum] 39)).drew.cell? ⟨w.heap.size, 3, none⟩ = some (.int .u32 ack) ∧ (w.alloc (.cells #[.int .i64 gsrc, .int .i64 gdst, .int .u32 seq, .int .u32 ack, .int .i64 gflags, .int .i64 win, .int .i64 urgent, .string gopt, .string gbody, .bool nosum] 39)).drew.cell? ⟨w.heap.size, 4, none⟩ = some (.int .i64 gflags) ∧ (w.alloc (.cells #[.int .i64 gsrc, .int .i64 gdst, .int .u32 seq, .int .u32 ack, .int .i64 gflags, .int .i64 win, .int .i64 urgent, .string gopt, .string gbody, .bool nosum] 39)).drew.cell? ⟨w.heap.size, 5, none⟩ = some (.int .i64 win) ∧ (w.alloc (.cells #[.int .i64 gsrc, .int .i64 gdst, .int .u32 seq, .int .u32 ack, .int .i64 gflags, .int .i64 win, .int .i64 urgent, .string gopt, .string gbody, .bool nosum] 39)).drew.cell? ⟨w.heap.size, 6, none⟩ = some (.int .i64 urgent) ∧ (w.alloc (.cells #[.int .i64 gsrc, .int .i64 gdst, .int .u32 seq, .int .u32 ack, .int .i64 gflags, .int .i64 win, .int .i64 urgent, .string gopt, .string gbody, .bool nosum] 39)).drew.cell? ⟨w.heap.size, 7, none⟩ = some (.string gopt) ∧ (w.alloc (.cells #[.int .i64 gsrc, .int .i64 gdst, .int .u32 seq, .int .u32 ack, .int .i64 gflags, .int .i64 win, .int .i64 urgent, .string gopt, .string gbody, .bool nosum] 39)).drew.cell? ⟨w.heap.size, 8, none⟩ = some (.string gbody) ∧ (w.alloc (.cells #[.int .i64 gsrc, .int .i64 gdst, .int .u32 seq, .int .u32 ack, .int .i64 gflags, .int .i64 win, .int .i64 urgent, .string gopt, .string gbody, .bool nosum] 39)).drew.cell? ⟨w.heap.size, 9, none⟩ = some (.bool nosum)) ∧ Held w 39 #[.int .i64 gsrc, .int .i64 gdst, .int .u32 seq, .int .u32 ack, .int .i64 gflags, .int .i64 win, .int .i64 urgent, .string gopt, .string gbody, .bool nosum] (w.alloc (.cells #[.int .i64 gsrc, .int .i64 gdst, .int .u32 seq, .int .u32 ack, .int .i64 gflags, .int .i64 win, .int .i64 urgent, .string gopt, .string gbody, .bool nosum] 39)).drew :=
  ⟨sg_cells (Held.new w 39 #[.int .i64 gsrc, .int .i64 gdst, .int .u32 seq, .int .u32 ack, .int .i64 gflags, .int .i64 win, .int .i64 urgent, .string gopt, .string gbody, .bool nosum]).drew, (Held.new w 39 #[.int .i64 gsrc, .int .i64 gdst, .int .u32 seq, .int .u32 ack, .int .i64 gflags, .int .i64 win, .int .i64 urgent, .string gopt, .string gbody, .bool nosum]).drew⟩
def restB (seq ack gflags win urgent : Int) (gopt : ByteArray) : ByteArray :=
  bs seq 4 ++ bs ack 4 ++ bs ((20 + (gopt.size : Int)) / 4 * 16) 1 ++ bs gflags 1 ++ bs win 2 ++ bs 0 2 ++ bs urgent 2
set_option maxRecDepth 100000 in
set_option maxHeartbeats 3200000 in
theorem rest_any (gsrc gdst seq ack gflags win urgent : Int) (gopt gbody : ByteArray) (nosum : Bool) (w : World) (hq : 0 ≤ seq ∧ seq < 4294967296) (ha : 0 ≤ ack ∧ ack < 4294967296) (hf : 0 ≤ gflags ∧ gflags ≤ 255) (hw : 0 ≤ win ∧ win ≤ 65535) (hu : 0 ≤ urgent ∧ urgent ≤ 65535) (hop : gopt.size ≤ 40) :
    Calls Try.prog 86 #[.agg #[.int .i64 gsrc, .int .i64 gdst, .int .u32 seq, .int .u32 ack, .int .i64 gflags, .int .i64 win, .int .i64 urgent, .string gopt, .string gbody, .bool nosum]] w fun e w' => e = .returned (.string (restB seq ack gflags win urgent gopt)) ∧ Below w.heap.size w w' := by
  unfold restB
  have w1 : IntKind.i64.wrap ((20 + (gopt.size : Int)) / 4 * 16) = (20 + (gopt.size : Int)) / 4 * 16 := IntWalk.i64_in _ (by omega)
  have w2 : IntKind.i64.wrap seq = seq := IntWalk.i64_in _ (by omega)
  have w3 : IntKind.i64.wrap ack = ack := IntWalk.i64_in _ (by omega)
  have w4 : (20 + (gopt.size : Int)).tdiv 4 = (20 + (gopt.size : Int)) / 4 := Int.tdiv_eq_ediv_of_nonneg (by omega)
  have A1 := fun W => sput_4 seq W (by omega) (by omega)
  have A2 := fun W => sput_4 ack W (by omega) (by omega)
  have A3 := fun W => sput_1 ((20 + (gopt.size : Int)) / 4 * 16) W (by omega) (by omega)
  have A4 := fun W => sput_1 gflags W (by omega) (by omega)
  have A5 := fun W => sput_2 win W (by omega) (by omega)
  have A6 := fun W => sput_2 0 W (by omega) (by omega)
  have A7 := fun W => sput_2 urgent W (by omega) (by omega)
  have s1 := Nat.le_of_eq (bs_size seq 4)
  have s2 := Nat.le_of_eq (bs_size ack 4)
  have s3 := Nat.le_of_eq (bs_size ((20 + (gopt.size : Int)) / 4 * 16) 1)
  have s4 := Nat.le_of_eq (bs_size gflags 1)
  have s5 := Nat.le_of_eq (bs_size win 2)
  have s6 := Nat.le_of_eq (bs_size 0 2)
  have s7 := Nat.le_of_eq (bs_size urgent 2)
  generalize bs seq 4 = T1 at *
  generalize bs ack 4 = T2 at *
  generalize bs ((20 + (gopt.size : Int)) / 4 * 16) 1 = T3 at *
  generalize bs gflags 1 = T4 at *
  generalize bs win 2 = T5 at *
  generalize bs 0 2 = T6 at *
  generalize bs urgent 2 = T7 at *
  have H1 := Lib.hid A1
  have H2 := Lib.hid A2
  have H3 := Lib.hid A3
  have H4 := Lib.hid A4
  have H5 := Lib.hid A5
  have H6 := Lib.hid A6
  have H7 := Lib.hid A7
  clear A1 A2 A3 A4 A5 A6 A7 hq ha hf hw hu
  have z2 : ¬ 9223372036854775807 < T1.size + T2.size := by omega
  have z3 : ¬ 9223372036854775807 < T1.size + T2.size + T3.size := by omega
  have z4 : ¬ 9223372036854775807 < T1.size + T2.size + T3.size + T4.size := by omega
  have z5 : ¬ 9223372036854775807 < T1.size + T2.size + T3.size + T4.size + T5.size := by omega
  have z6 : ¬ 9223372036854775807 < T1.size + T2.size + T3.size + T4.size + T5.size + T6.size := by omega
  have z7 : ¬ 9223372036854775807 < T1.size + T2.size + T3.size + T4.size + T5.size + T6.size + T7.size := by omega
  go_enter Try.func86, Try.ntmps86
  go_wp2_with fail
  have c0 := sg_new w gsrc gdst seq ack gflags win urgent gopt gbody nosum
  go_region_held3 (fun w' => (w'.cell? ⟨w.heap.size, 0, none⟩ = some (.int .i64 gsrc) ∧ w'.cell? ⟨w.heap.size, 1, none⟩ = some (.int .i64 gdst) ∧ w'.cell? ⟨w.heap.size, 2, none⟩ = some (.int .u32 seq) ∧ w'.cell? ⟨w.heap.size, 3, none⟩ = some (.int .u32 ack) ∧ w'.cell? ⟨w.heap.size, 4, none⟩ = some (.int .i64 gflags) ∧ w'.cell? ⟨w.heap.size, 5, none⟩ = some (.int .i64 win) ∧ w'.cell? ⟨w.heap.size, 6, none⟩ = some (.int .i64 urgent) ∧ w'.cell? ⟨w.heap.size, 7, none⟩ = some (.string gopt) ∧ w'.cell? ⟨w.heap.size, 8, none⟩ = some (.string gbody) ∧ w'.cell? ⟨w.heap.size, 9, none⟩ = some (.bool nosum)) ∧ Held w 39 #[.int .i64 gsrc, .int .i64 gdst, .int .u32 seq, .int .u32 ack, .int .i64 gflags, .int .i64 win, .int .i64 urgent, .string gopt, .string gbody, .bool nosum] w')
    (first | exact c0 | assumption | exact sg_next (by assumption) hq)
    (first | (go_at_call 84; (first | (with_reducible refine (H1.out _).mono ?_) | (with_reducible refine (H2.out _).mono ?_) | (with_reducible refine (H3.out _).mono ?_) | (with_reducible refine (H4.out _).mono ?_) | (with_reducible refine (H5.out _).mono ?_) | (with_reducible refine (H6.out _).mono ?_) | (with_reducible refine (H7.out _).mono ?_)); rintro e w' ⟨rfl, hq⟩))
  all_goals
    rename_i hH
    go_wp2
    go_ret
    exact ⟨rfl, hH.2.below⟩
theorem pk_here {w w1 : World} {v : Int} {src dst : ByteArray} {proto hops cls id flags off label : Int} {opt body : ByteArray} (h : Held w 36 #[.int .i64 v, .string src, .string dst, .int .i64 proto, .int .i64 hops, .int .i64 cls, .int .i64 id, .int .i64 flags, .int .i64 off, .int .i64 label, .string opt, .string body] w1) : (w1.drew.cell? ⟨w.heap.size, 0, none⟩ = some (.int .i64 v) ∧ w1.drew.cell? ⟨w.heap.size, 1, none⟩ = some (.string src) ∧ w1.drew.cell? ⟨w.heap.size, 2, none⟩ = some (.string dst) ∧ w1.drew.cell? ⟨w.heap.size, 3, none⟩ = some (.int .i64 proto) ∧ w1.drew.cell? ⟨w.heap.size, 4, none⟩ = some (.int .i64 hops) ∧ w1.drew.cell? ⟨w.heap.size, 5, none⟩ = some (.int .i64 cls) ∧ w1.drew.cell? ⟨w.heap.size, 6, none⟩ = some (.int .i64 id) ∧ w1.drew.cell? ⟨w.heap.size, 7, none⟩ = some (.int .i64 flags) ∧ w1.drew.cell? ⟨w.heap.size, 8, none⟩ = some (.int .i64 off) ∧ w1.drew.cell? ⟨w.heap.size, 9, none⟩ = some (.int .i64 label) ∧ w1.drew.cell? ⟨w.heap.size, 10, none⟩ = some (.string opt) ∧ w1.drew.cell? ⟨w.heap.size, 11, none⟩ = some (.string body)) ∧ Held w 36 #[.int .i64 v, .string src, .string dst, .int .i64 proto, .int .i64 hops, .int .i64 cls, .int .i64 id, .int .i64 flags, .int .i64 off, .int .i64 label, .string opt, .string body] w1.drew := ⟨pk_cells h.drew, h.drew⟩
set_option maxRecDepth 100000 in
set_option maxHeartbeats 3200000 in
theorem segSummed_any (v : Int) (src dst : ByteArray) (proto hops cls id flags off label : Int) (opt body : ByteArray) (s ps : ByteArray) (w : World) (hs : s.size ≤ 65535) (hps : ps.size ≤ 40) (h12 : atV proto + 2 ≤ s.size)
    (AP : ∀ W, Calls Try.prog 32 #[.agg #[.int .i64 v, .string src, .string dst, .int .i64 proto, .int .i64 hops, .int .i64 cls, .int .i64 id, .int .i64 flags, .int .i64 off, .int .i64 label, .string opt, .string body], .int .i64 s.size] W fun e w' => e = .returned (.string ps) ∧ Below W.heap.size W w') :
    Calls Try.prog 46 #[.agg #[.int .i64 v, .string src, .string dst, .int .i64 proto, .int .i64 hops, .int .i64 cls, .int .i64 id, .int .i64 flags, .int .i64 off, .int .i64 label, .string opt, .string body], .string s] w fun e w' => e = .returned (.string (withS s (atV proto) (segSum (ps ++ withS s (atV proto) 0)))) ∧ Below w.heap.size w w' := by
  have hz := withS_size s (atV proto) 0 h12
  have A1 := fun W => withSum_any v src dst proto hops cls id flags off label opt body s 0 W (by omega) h12 (by omega) (by omega)
  obtain ⟨Y, hY⟩ : ∃ Y, withS s (atV proto) 0 = Y := ⟨_, rfl⟩
  rw [hY] at A1 hz ⊢
  have A2 := fun W => sumOf_any (ps ++ Y) W (by rw [ByteArray.size_append]; omega)
  have hV := segSum_range (ps ++ Y)
  have A3 := fun W => withSum_any v src dst proto hops cls id flags off label opt body s (segSum (ps ++ Y)) W (by omega) h12 hV.1 hV.2
  generalize hVV : segSum (ps ++ Y) = V at *
  generalize withS s (atV proto) V = R at *
  have H1 := Lib.hid A1
  have H2 := Lib.hid A2
  have H3 := Lib.hid A3
  have HP := Lib.hid AP
  have z1 : ¬ 9223372036854775807 < ps.size + Y.size := by omega
  clear A1 A2 A3 AP hVV hY h12 hV
  go_enter Try.func46, Try.ntmps46
  go_wp2_with fail
  refine (H1.out _).mono ?_
  rintro e w1 ⟨rfl, hq⟩
  have hS := (Held.new w 36 #[.int .i64 v, .string src, .string dst, .int .i64 proto, .int .i64 hops, .int .i64 cls, .int .i64 id, .int .i64 flags, .int .i64 off, .int .i64 label, .string opt, .string body]).next hq
  clear hq
  have c0 := pk_here hS
  go_wp2_with fail
  go_region_held (fun w' => (w'.cell? ⟨w.heap.size, 0, none⟩ = some (.int .i64 v) ∧ w'.cell? ⟨w.heap.size, 1, none⟩ = some (.string src) ∧ w'.cell? ⟨w.heap.size, 2, none⟩ = some (.string dst) ∧ w'.cell? ⟨w.heap.size, 3, none⟩ = some (.int .i64 proto) ∧ w'.cell? ⟨w.heap.size, 4, none⟩ = some (.int .i64 hops) ∧ w'.cell? ⟨w.heap.size, 5, none⟩ = some (.int .i64 cls) ∧ w'.cell? ⟨w.heap.size, 6, none⟩ = some (.int .i64 id) ∧ w'.cell? ⟨w.heap.size, 7, none⟩ = some (.int .i64 flags) ∧ w'.cell? ⟨w.heap.size, 8, none⟩ = some (.int .i64 off) ∧ w'.cell? ⟨w.heap.size, 9, none⟩ = some (.int .i64 label) ∧ w'.cell? ⟨w.heap.size, 10, none⟩ = some (.string opt) ∧ w'.cell? ⟨w.heap.size, 11, none⟩ = some (.string body)) ∧ Held w 36 #[.int .i64 v, .string src, .string dst, .int .i64 proto, .int .i64 hops, .int .i64 cls, .int .i64 id, .int .i64 flags, .int .i64 off, .int .i64 label, .string opt, .string body] w')
    (first | exact c0 | assumption | exact pk_next (by assumption) hq)
    (first
      | (go_at_call 32; ((with_reducible refine (HP.out _).mono ?_); rintro e w' ⟨rfl, hq⟩))
      | (go_at_call 60; ((with_reducible refine (H2.out _).mono ?_); rintro e w' ⟨rfl, hq⟩))
      | (go_at_call 88; ((with_reducible refine (H3.out _).mono ?_); rintro e w' ⟨rfl, hq⟩)))
  all_goals
    rename_i hH
    go_wp2
    go_ret
    exact ⟨rfl, hH.2.below⟩
end Go.Proofs.Ytalkpllmcigjnaa
namespace Go.Proofs.Ytalkpllmcigjnaa
open Go.RowKit

set_option maxRecDepth 100000 in
set_option maxHeartbeats 3200000 in
theorem ipB_4 (v : Int) (src dst : ByteArray) (proto hops cls id flags off label : Int) (opt body : ByteArray) (w : World) (HD Y : ByteArray) (hy : Y.size ≤ 100) (hb : body.size ≤ 65535) (A4 : ∀ W, Calls Try.prog 47 #[.agg #[.int .i64 v, .string src, .string dst, .int .i64 proto, .int .i64 hops, .int .i64 cls, .int .i64 id, .int .i64 flags, .int .i64 off, .int .i64 label, .string opt, .string body]] W fun e w' => e = .returned (.bool true) ∧ Below W.heap.size W w')
    (AH : ∀ W, Calls Try.prog 49 #[.agg #[.int .i64 v, .string src, .string dst, .int .i64 proto, .int .i64 hops, .int .i64 cls, .int .i64 id, .int .i64 flags, .int .i64 off, .int .i64 label, .string opt, .string body]] W fun e w' => e = .returned (.string HD) ∧ Below W.heap.size W w') (AS : ∀ W, Calls Try.prog 48 #[.string HD] W fun e w' => e = .returned (.string Y) ∧ Below W.heap.size W w') :
    Calls Try.prog 20 #[.agg #[.int .i64 v, .string src, .string dst, .int .i64 proto, .int .i64 hops, .int .i64 cls, .int .i64 id, .int .i64 flags, .int .i64 off, .int .i64 label, .string opt, .string body]] w (fun e w' => e = .returned (.tuple #[.string (Y ++ body), .int .i64 0]) ∧ Below w.heap.size w w') := by
  have H4 := Lib.hid A4
  have HH := Lib.hid AH
  have HS := Lib.hid AS
  have y1 : ¬ 9223372036854775807 < Y.size + body.size := by omega
  clear A4 AH AS
  go_enter Try.func20, Try.ntmps20
  go_wp2_with fail
  refine (H4.out _).mono ?_
  rintro e w1 ⟨rfl, hq⟩
  have h1 := (Held.new w 36 #[.int .i64 v, .string src, .string dst, .int .i64 proto, .int .i64 hops, .int .i64 cls, .int .i64 id, .int .i64 flags, .int .i64 off, .int .i64 label, .string opt, .string body]).next hq
  clear hq
  obtain ⟨c0, c1, c2, c3, c4, c5, c6, c7, c8, c9, c10, c11⟩ := pk_cells h1
  go_wp2_with fail
  have q0 := pk_here h1
  go_region_held (fun w' => (w'.cell? ⟨w.heap.size, 0, none⟩ = some (.int .i64 v) ∧ w'.cell? ⟨w.heap.size, 1, none⟩ = some (.string src) ∧ w'.cell? ⟨w.heap.size, 2, none⟩ = some (.string dst) ∧ w'.cell? ⟨w.heap.size, 3, none⟩ = some (.int .i64 proto) ∧ w'.cell? ⟨w.heap.size, 4, none⟩ = some (.int .i64 hops) ∧ w'.cell? ⟨w.heap.size, 5, none⟩ = some (.int .i64 cls) ∧ w'.cell? ⟨w.heap.size, 6, none⟩ = some (.int .i64 id) ∧ w'.cell? ⟨w.heap.size, 7, none⟩ = some (.int .i64 flags) ∧ w'.cell? ⟨w.heap.size, 8, none⟩ = some (.int .i64 off) ∧ w'.cell? ⟨w.heap.size, 9, none⟩ = some (.int .i64 label) ∧ w'.cell? ⟨w.heap.size, 10, none⟩ = some (.string opt) ∧ w'.cell? ⟨w.heap.size, 11, none⟩ = some (.string body)) ∧ Held w 36 #[.int .i64 v, .string src, .string dst, .int .i64 proto, .int .i64 hops, .int .i64 cls, .int .i64 id, .int .i64 flags, .int .i64 off, .int .i64 label, .string opt, .string body] w')
    (first | exact q0 | assumption | exact pk_next (by assumption) hq)
    (first
      | (go_at_call 49; ((with_reducible refine (HH.out _).mono ?_); rintro e w' ⟨rfl, hq⟩))
      | (go_at_call 48; ((with_reducible refine (HS.out _).mono ?_); rintro e w' ⟨rfl, hq⟩)))
  all_goals
    rename_i hH
    have hB := hH.2.below
    go_wp2
    go_ret2
    exact ⟨rfl, hB⟩
set_option maxRecDepth 100000 in
set_option maxHeartbeats 3200000 in
theorem ipB_6 (v : Int) (src dst : ByteArray) (proto hops cls id flags off label : Int) (opt body : ByteArray) (w : World) (Y : ByteArray) (hy : Y.size ≤ 100) (hb : body.size ≤ 65535) (A4 : ∀ W, Calls Try.prog 47 #[.agg #[.int .i64 v, .string src, .string dst, .int .i64 proto, .int .i64 hops, .int .i64 cls, .int .i64 id, .int .i64 flags, .int .i64 off, .int .i64 label, .string opt, .string body]] W fun e w' => e = .returned (.bool false) ∧ Below W.heap.size W w') (A6 : ∀ W, Calls Try.prog 50 #[.agg #[.int .i64 v, .string src, .string dst, .int .i64 proto, .int .i64 hops, .int .i64 cls, .int .i64 id, .int .i64 flags, .int .i64 off, .int .i64 label, .string opt, .string body]] W fun e w' => e = .returned (.bool true) ∧ Below W.heap.size W w')
    (AH : ∀ W, Calls Try.prog 51 #[.agg #[.int .i64 v, .string src, .string dst, .int .i64 proto, .int .i64 hops, .int .i64 cls, .int .i64 id, .int .i64 flags, .int .i64 off, .int .i64 label, .string opt, .string body]] W fun e w' => e = .returned (.string Y) ∧ Below W.heap.size W w') :
    Calls Try.prog 20 #[.agg #[.int .i64 v, .string src, .string dst, .int .i64 proto, .int .i64 hops, .int .i64 cls, .int .i64 id, .int .i64 flags, .int .i64 off, .int .i64 label, .string opt, .string body]] w (fun e w' => e = .returned (.tuple #[.string (Y ++ body), .int .i64 0]) ∧ Below w.heap.size w w') := by
  have H4 := Lib.hid A4
  have H6 := Lib.hid A6
  have HH := Lib.hid AH
  have y1 : ¬ 9223372036854775807 < Y.size + body.size := by omega
  clear A4 A6 AH
  go_enter Try.func20, Try.ntmps20
  go_wp2_with fail
  refine (H4.out _).mono ?_
  rintro e w1 ⟨rfl, hq⟩
  have h1 := (Held.new w 36 #[.int .i64 v, .string src, .string dst, .int .i64 proto, .int .i64 hops, .int .i64 cls, .int .i64 id, .int .i64 flags, .int .i64 off, .int .i64 label, .string opt, .string body]).next hq
  clear hq
  obtain ⟨c0, c1, c2, c3, c4, c5, c6, c7, c8, c9, c10, c11⟩ := pk_cells h1
  go_wp2_with fail
  refine (H6.out _).mono ?_
  rintro e w2 ⟨rfl, hq⟩
  have h2 := h1.next hq
  clear hq h1 c0 c1 c2 c3 c4 c5 c6 c7 c8 c9 c10 c11
  obtain ⟨c0, c1, c2, c3, c4, c5, c6, c7, c8, c9, c10, c11⟩ := pk_cells h2
  go_wp2_with fail
  have q0 := pk_here h2
  go_region_held (fun w' => (w'.cell? ⟨w.heap.size, 0, none⟩ = some (.int .i64 v) ∧ w'.cell? ⟨w.heap.size, 1, none⟩ = some (.string src) ∧ w'.cell? ⟨w.heap.size, 2, none⟩ = some (.string dst) ∧ w'.cell? ⟨w.heap.size, 3, none⟩ = some (.int .i64 proto) ∧ w'.cell? ⟨w.heap.size, 4, none⟩ = some (.int .i64 hops) ∧ w'.cell? ⟨w.heap.size, 5, none⟩ = some (.int .i64 cls) ∧ w'.cell? ⟨w.heap.size, 6, none⟩ = some (.int .i64 id) ∧ w'.cell? ⟨w.heap.size, 7, none⟩ = some (.int .i64 flags) ∧ w'.cell? ⟨w.heap.size, 8, none⟩ = some (.int .i64 off) ∧ w'.cell? ⟨w.heap.size, 9, none⟩ = some (.int .i64 label) ∧ w'.cell? ⟨w.heap.size, 10, none⟩ = some (.string opt) ∧ w'.cell? ⟨w.heap.size, 11, none⟩ = some (.string body)) ∧ Held w 36 #[.int .i64 v, .string src, .string dst, .int .i64 proto, .int .i64 hops, .int .i64 cls, .int .i64 id, .int .i64 flags, .int .i64 off, .int .i64 label, .string opt, .string body] w')
    (first | exact q0 | assumption | exact pk_next (by assumption) hq)
    (first | (go_at_call 51; ((with_reducible refine (HH.out _).mono ?_); rintro e w' ⟨rfl, hq⟩)))
  all_goals
    rename_i hH
    have hB := hH.2.below
    go_wp2
    go_ret2
    exact ⟨rfl, hB⟩
set_option maxRecDepth 100000 in
theorem ipB_no (v : Int) (src dst : ByteArray) (proto hops cls id flags off label : Int) (opt body : ByteArray) (w : World) (A4 : ∀ W, Calls Try.prog 47 #[.agg #[.int .i64 v, .string src, .string dst, .int .i64 proto, .int .i64 hops, .int .i64 cls, .int .i64 id, .int .i64 flags, .int .i64 off, .int .i64 label, .string opt, .string body]] W fun e w' => e = .returned (.bool false) ∧ Below W.heap.size W w') (A6 : ∀ W, Calls Try.prog 50 #[.agg #[.int .i64 v, .string src, .string dst, .int .i64 proto, .int .i64 hops, .int .i64 cls, .int .i64 id, .int .i64 flags, .int .i64 off, .int .i64 label, .string opt, .string body]] W fun e w' => e = .returned (.bool false) ∧ Below W.heap.size W w') :
    Calls Try.prog 20 #[.agg #[.int .i64 v, .string src, .string dst, .int .i64 proto, .int .i64 hops, .int .i64 cls, .int .i64 id, .int .i64 flags, .int .i64 off, .int .i64 label, .string opt, .string body]] w (fun e w' => e = .returned (.tuple #[.string ⟨#[]⟩, .int .i64 71]) ∧ Below w.heap.size w w') := by
  have H4 := Lib.hid A4
  have H6 := Lib.hid A6
  clear A4 A6
  go_enter Try.func20, Try.ntmps20
  go_wp2_with fail
  refine (H4.out _).mono ?_
  rintro e w1 ⟨rfl, hq⟩
  have h1 := (Held.new w 36 #[.int .i64 v, .string src, .string dst, .int .i64 proto, .int .i64 hops, .int .i64 cls, .int .i64 id, .int .i64 flags, .int .i64 off, .int .i64 label, .string opt, .string body]).next hq
  clear hq
  obtain ⟨c0, c1, c2, c3, c4, c5, c6, c7, c8, c9, c10, c11⟩ := pk_cells h1
  go_wp2_with fail
  refine (H6.out _).mono ?_
  rintro e w2 ⟨rfl, hq⟩
  have h2 := h1.next hq
  clear hq h1 c0 c1 c2 c3 c4 c5 c6 c7 c8 c9 c10 c11
  obtain ⟨c0, c1, c2, c3, c4, c5, c6, c7, c8, c9, c10, c11⟩ := pk_cells h2
  go_wp2_with fail
  go_ret2
  exact ⟨rfl, h2.below⟩
def ipH (p : Pk) : ByteArray := head4B p.opt p.body p.src p.dst p.proto p.hops p.cls p.id p.flags p.off
def ipS (p : Pk) : ByteArray := if pk4B p = true then sumd (ipH p) ++ p.body else if pk6B p = true then head6B p.body p.src p.dst p.proto p.hops p.cls p.label ++ p.body else ⟨#[]⟩
def ipF (p : Pk) : Int := if pk4B p = true ∨ pk6B p = true then 0 else 71
theorem pk4B_iff {p : Pk} : pk4B p = true ↔ p.v = 4 ∧ p.src.size = 4 ∧ p.dst.size = 4 ∧ (0 ≤ p.cls ∧ p.cls ≤ 255) ∧ (0 ≤ p.proto ∧ p.proto ≤ 255) ∧ (0 ≤ p.hops ∧ p.hops ≤ 255) ∧ (0 ≤ p.id ∧ p.id ≤ 65535) ∧ (0 ≤ p.flags ∧ p.flags ≤ 3) ∧ (0 ≤ p.off ∧ p.off ≤ 8191) ∧ p.label = 0 ∧ (p.opt.size ≤ 40 ∧ p.opt.size % 4 = 0) ∧ 20 + p.opt.size + p.body.size ≤ 65535 := by
  simp only [pk4B, comB, inB, optB, Bool.and_eq_true, beq_iff_eq, decide_eq_true_eq]
  constructor
  · intro h; omega
  · intro h; omega
theorem nil_size (s : ByteArray) : (s.toList == []) = true ↔ s.size = 0 := by
  rw [beq_iff_eq, ByteArray.toList_eq]
  constructor
  · intro h
    have := congrArg List.length h
    simpa using this
  · intro h
    apply List.eq_nil_of_length_eq_zero
    simpa using h
theorem pk6B_iff {p : Pk} : pk6B p = true ↔ p.v = 6 ∧ p.src.size = 16 ∧ p.dst.size = 16 ∧ (0 ≤ p.cls ∧ p.cls ≤ 255) ∧ (0 ≤ p.proto ∧ p.proto ≤ 255) ∧ (0 ≤ p.hops ∧ p.hops ≤ 255) ∧ p.id = 0 ∧ p.flags = 0 ∧ p.off = 0 ∧ (0 ≤ p.label ∧ p.label ≤ 1048575) ∧ p.opt.size = 0 ∧ p.body.size ≤ 65535 := by
  simp only [pk6B, comB, inB, Bool.and_eq_true, nil_size]
  simp only [beq_iff_eq, decide_eq_true_eq]
  constructor
  · intro h; omega
  · intro h; omega
theorem head4_size {p : Pk} : (ipH p).size = 12 + p.src.size + p.dst.size + p.opt.size := by
  unfold ipH head4B; simp only [ByteArray.size_append, bs_size]
theorem head6_size (body src dst : ByteArray) (proto hops cls label : Int) : (head6B body src dst proto hops cls label).size = 8 + src.size + dst.size := by
  unfold head6B; simp only [ByteArray.size_append, bs_size]
theorem ipB_any (p : Pk) (w : World) (ho : p.opt.size ≤ 140737488351232) (hb : p.body.size ≤ 140737488351232) :
    Calls Try.prog 20 #[.agg #[.int .i64 p.v, .string p.src, .string p.dst, .int .i64 p.proto, .int .i64 p.hops, .int .i64 p.cls, .int .i64 p.id, .int .i64 p.flags, .int .i64 p.off, .int .i64 p.label, .string p.opt, .string p.body]] w fun e w' => e = .returned (.tuple #[.string (ipS p), .int .i64 (ipF p)]) ∧ Below w.heap.size w w' := by
  have A4 := fun W => pk4_any p W ho hb
  have A6 := pk6_any p
  cases h4 : pk4B p
  · rw [h4] at A4
    cases h6 : pk6B p
    · rw [h6] at A6
      rw [ipS, ipF, h4, h6, if_neg (by simp), if_neg (by simp), if_neg (by simp)]
      exact ipB_no _ _ _ _ _ _ _ _ _ _ _ _ w A4 A6
    · rw [h6] at A6
      rw [ipS, ipF, h4, h6, if_neg (by simp), if_pos rfl, if_pos (.inr rfl)]
      obtain ⟨hv, h1, h2, h3, h5, h7, h8, h9, h10, h11, h12, h13⟩ := pk6B_iff.1 h6
      exact ipB_6 _ _ _ _ _ _ _ _ _ _ _ _ w _ (by rw [head6_size]; omega) h13 A4 A6 (fun W => head6_any _ _ _ _ _ _ _ _ _ _ _ _ W h1 h2 h3 h5 h7 h11 h13)
  · rw [h4] at A4
    rw [ipS, ipF, h4, if_pos rfl, if_pos (.inl rfl)]
    obtain ⟨hv, h1, h2, h3, h5, h7, h8, h9, h10, h11, h12, h13⟩ := pk4B_iff.1 h4
    have hz := @head4_size p
    exact ipB_4 _ _ _ _ _ _ _ _ _ _ _ _ w (ipH p) _ (by rw [sumd_size _ (by omega)]; omega) (by omega) A4 (fun W => head4_any _ _ _ _ _ _ _ _ _ _ _ _ W h1 h2 h3 h5 h7 h8 h9 h10 h12.1 h13) (fun W => summed_any _ W (by omega) (by omega))
end Go.Proofs.Ytalkpllmcigjnaa
namespace Go.Proofs.Ytalkpllmcigjnaa
open Go.RowKit

/-- a packet and a segment in their blocks -/
structure Two2 (w0 : World) (pc gc : Array Value) (w : World) : Prop where
  p : Blk w w0.heap.size 36 pc
  g : Blk w (w0.heap.size + 1) 39 gc
  below : Below w0.heap.size w0 w
theorem Two2.next {w w1 w' : World} {pc gc : Array Value} (h : Two2 w pc gc w1) (hq : Below w1.heap.size w1 w') : Two2 w pc gc w' :=
  ⟨h.p.same (hq.block _ h.p.lt), h.g.same (hq.block _ h.g.lt), h.below.trans (hq.mono (by have := h.p.lt; omega))⟩
theorem Two2.drew {w w1 : World} {pc gc : Array Value} (h : Two2 w pc gc w1) : Two2 w pc gc w1.drew := ⟨h.p, h.g, h.below.drew⟩
theorem Two2.new (w : World) (pc gc : Array Value) : Two2 w pc gc ((w.alloc (.cells pc 36)).alloc (.cells gc 39)) := by
  refine ⟨(Blk.new w 36 _).alloc _, ?_, ((Below.refl _ _).alloc (Nat.le_refl _) _).alloc (by simp) _⟩
  have := Blk.new (w.alloc (.cells pc 36)) 39 gc
  simpa using this
theorem Two2.cells {w w' : World} {v : Int} {src dst : ByteArray} {proto hops cls id flags off label : Int} {opt body : ByteArray} {gsrc gdst seq ack gflags win urgent : Int} {gopt gbody : ByteArray} {nosum : Bool} (h : Two2 w #[.int .i64 v, .string src, .string dst, .int .i64 proto, .int .i64 hops, .int .i64 cls, .int .i64 id, .int .i64 flags, .int .i64 off, .int .i64 label, .string opt, .string body] #[.int .i64 gsrc, .int .i64 gdst, .int .u32 seq, .int .u32 ack, .int .i64 gflags, .int .i64 win, .int .i64 urgent, .string gopt, .string gbody, .bool nosum] w') : (w'.cell? ⟨w.heap.size, 0, none⟩ = some (.int .i64 v) ∧ w'.cell? ⟨w.heap.size, 1, none⟩ = some (.string src) ∧ w'.cell? ⟨w.heap.size, 2, none⟩ = some (.string dst) ∧ w'.cell? ⟨w.heap.size, 3, none⟩ = some (.int .i64 proto) ∧ w'.cell? ⟨w.heap.size, 4, none⟩ = some (.int .i64 hops) ∧ w'.cell? ⟨w.heap.size, 5, none⟩ = some (.int .i64 cls) ∧ w'.cell? ⟨w.heap.size, 6, none⟩ = some (.int .i64 id) ∧ w'.cell? ⟨w.heap.size, 7, none⟩ = some (.int .i64 flags) ∧ w'.cell? ⟨w.heap.size, 8, none⟩ = some (.int .i64 off) ∧ w'.cell? ⟨w.heap.size, 9, none⟩ = some (.int .i64 label) ∧ w'.cell? ⟨w.heap.size, 10, none⟩ = some (.string opt) ∧ w'.cell? ⟨w.heap.size, 11, none⟩ = some (.string body)) ∧ (w'.cell? ⟨w.heap.size + 1, 0, none⟩ = some (.int .i64 gsrc) ∧ w'.cell? ⟨w.heap.size + 1, 1, none⟩ = some (.int .i64 gdst) ∧ w'.cell? ⟨w.heap.size + 1, 2, none⟩ = some (.int .u32 seq) ∧ w'.cell? ⟨w.heap.size + 1, 3, none⟩ = some (.int .u32 ack) ∧ w'.cell? ⟨w.heap.size + 1, 4, none⟩ = some (.int .i64 gflags) ∧ w'.cell? ⟨w.heap.size + 1, 5, none⟩ = some (.int .i64 win) ∧ w'.cell? ⟨w.heap.size + 1, 6, none⟩ = some (.int .i64 urgent) ∧ w'.cell? ⟨w.heap.size + 1, 7, none⟩ = some (.string gopt) ∧ w'.cell? ⟨w.heap.size + 1, 8, none⟩ = some (.string gbody) ∧ w'.cell? ⟨w.heap.size + 1, 9, none⟩ = some (.bool nosum)) :=
  ⟨⟨h.p.cell 0, h.p.cell 1, h.p.cell 2, h.p.cell 3, h.p.cell 4, h.p.cell 5, h.p.cell 6, h.p.cell 7, h.p.cell 8, h.p.cell 9, h.p.cell 10, h.p.cell 11⟩, ⟨h.g.cell 0, h.g.cell 1, h.g.cell 2, h.g.cell 3, h.g.cell 4, h.g.cell 5, h.g.cell 6, h.g.cell 7, h.g.cell 8, h.g.cell 9⟩⟩
theorem two_next {w w1 w' : World} {v : Int} {src dst : ByteArray} {proto hops cls id flags off label : Int} {opt body : ByteArray} {gsrc gdst seq ack gflags win urgent : Int} {gopt gbody : ByteArray} {nosum : Bool} (h : ((w1.cell? ⟨w.heap.size, 0, none⟩ = some (.int .i64 v) ∧ w1.cell? ⟨w.heap.size, 1, none⟩ = some (.string src) ∧ w1.cell? ⟨w.heap.size, 2, none⟩ = some (.string dst) ∧ w1.cell? ⟨w.heap.size, 3, none⟩ = some (.int .i64 proto) ∧ w1.cell? ⟨w.heap.size, 4, none⟩ = some (.int .i64 hops) ∧ w1.cell? ⟨w.heap.size, 5, none⟩ = some (.int .i64 cls) ∧ w1.cell? ⟨w.heap.size, 6, none⟩ = some (.int .i64 id) ∧ w1.cell? ⟨w.heap.size, 7, none⟩ = some (.int .i64 flags) ∧ w1.cell? ⟨w.heap.size, 8, none⟩ = some (.int .i64 off) ∧ w1.cell? ⟨w.heap.size, 9, none⟩ = some (.int .i64 label) ∧ w1.cell? ⟨w.heap.size, 10, none⟩ = some (.string opt) ∧ w1.cell? ⟨w.heap.size, 11, none⟩ = some (.string body)) ∧ (w1.cell? ⟨w.heap.size + 1, 0, none⟩ = some (.int .i64 gsrc) ∧ w1.cell? ⟨w.heap.size + 1, 1, none⟩ = some (.int .i64 gdst) ∧ w1.cell? ⟨w.heap.size + 1, 2, none⟩ = some (.int .u32 seq) ∧ w1.cell? ⟨w.heap.size + 1, 3, none⟩ = some (.int .u32 ack) ∧ w1.cell? ⟨w.heap.size + 1, 4, none⟩ = some (.int .i64 gflags) ∧ w1.cell? ⟨w.heap.size + 1, 5, none⟩ = some (.int .i64 win) ∧ w1.cell? ⟨w.heap.size + 1, 6, none⟩ = some (.int .i64 urgent) ∧ w1.cell? ⟨w.heap.size + 1, 7, none⟩ = some (.string gopt) ∧ w1.cell? ⟨w.heap.size + 1, 8, none⟩ = some (.string gbody) ∧ w1.cell? ⟨w.heap.size + 1, 9, none⟩ = some (.bool nosum))) ∧ Two2 w #[.int .i64 v, .string src, .string dst, .int .i64 proto, .int .i64 hops, .int .i64 cls, .int .i64 id, .int .i64 flags, .int .i64 off, .int .i64 label, .string opt, .string body] #[.int .i64 gsrc, .int .i64 gdst, .int .u32 seq, .int .u32 ack, .int .i64 gflags, .int .i64 win, .int .i64 urgent, .string gopt, .string gbody, .bool nosum] w1) (hq : Below w1.heap.size w1 w') : ((w'.cell? ⟨w.heap.size, 0, none⟩ = some (.int .i64 v) ∧ w'.cell? ⟨w.heap.size, 1, none⟩ = some (.string src) ∧ w'.cell? ⟨w.heap.size, 2, none⟩ = some (.string dst) ∧ w'.cell? ⟨w.heap.size, 3, none⟩ = some (.int .i64 proto) ∧ w'.cell? ⟨w.heap.size, 4, none⟩ = some (.int .i64 hops) ∧ w'.cell? ⟨w.heap.size, 5, none⟩ = some (.int .i64 cls) ∧ w'.cell? ⟨w.heap.size, 6, none⟩ = some (.int .i64 id) ∧ w'.cell? ⟨w.heap.size, 7, none⟩ = some (.int .i64 flags) ∧ w'.cell? ⟨w.heap.size, 8, none⟩ = some (.int .i64 off) ∧ w'.cell? ⟨w.heap.size, 9, none⟩ = some (.int .i64 label) ∧ w'.cell? ⟨w.heap.size, 10, none⟩ = some (.string opt) ∧ w'.cell? ⟨w.heap.size, 11, none⟩ = some (.string body)) ∧ (w'.cell? ⟨w.heap.size + 1, 0, none⟩ = some (.int .i64 gsrc) ∧ w'.cell? ⟨w.heap.size + 1, 1, none⟩ = some (.int .i64 gdst) ∧ w'.cell? ⟨w.heap.size + 1, 2, none⟩ = some (.int .u32 seq) ∧ w'.cell? ⟨w.heap.size + 1, 3, none⟩ = some (.int .u32 ack) ∧ w'.cell? ⟨w.heap.size + 1, 4, none⟩ = some (.int .i64 gflags) ∧ w'.cell? ⟨w.heap.size + 1, 5, none⟩ = some (.int .i64 win) ∧ w'.cell? ⟨w.heap.size + 1, 6, none⟩ = some (.int .i64 urgent) ∧ w'.cell? ⟨w.heap.size + 1, 7, none⟩ = some (.string gopt) ∧ w'.cell? ⟨w.heap.size + 1, 8, none⟩ = some (.string gbody) ∧ w'.cell? ⟨w.heap.size + 1, 9, none⟩ = some (.bool nosum))) ∧ Two2 w #[.int .i64 v, .string src, .string dst, .int .i64 proto, .int .i64 hops, .int .i64 cls, .int .i64 id, .int .i64 flags, .int .i64 off, .int .i64 label, .string opt, .string body] #[.int .i64 gsrc, .int .i64 gdst, .int .u32 seq, .int .u32 ack, .int .i64 gflags, .int .i64 win, .int .i64 urgent, .string gopt, .string gbody, .bool nosum] w' :=
  ⟨(h.2.next hq).cells, h.2.next hq⟩
theorem two_here {w w1 : World} {v : Int} {src dst : ByteArray} {proto hops cls id flags off label : Int} {opt body : ByteArray} {gsrc gdst seq ack gflags win urgent : Int} {gopt gbody : ByteArray} {nosum : Bool} (h : Two2 w #[.int .i64 v, .string src, .string dst, .int .i64 proto, .int .i64 hops, .int .i64 cls, .int .i64 id, .int .i64 flags, .int .i64 off, .int .i64 label, .string opt, .string body] #[.int .i64 gsrc, .int .i64 gdst, .int .u32 seq, .int .u32 ack, .int .i64 gflags, .int .i64 win, .int .i64 urgent, .string gopt, .string gbody, .bool nosum] w1) : ((w1.drew.cell? ⟨w.heap.size, 0, none⟩ = some (.int .i64 v) ∧ w1.drew.cell? ⟨w.heap.size, 1, none⟩ = some (.string src) ∧ w1.drew.cell? ⟨w.heap.size, 2, none⟩ = some (.string dst) ∧ w1.drew.cell? ⟨w.heap.size, 3, none⟩ = some (.int .i64 proto) ∧ w1.drew.cell? ⟨w.heap.size, 4, none⟩ = some (.int .i64 hops) ∧ w1.drew.cell? ⟨w.heap.size, 5, none⟩ = some (.int .i64 cls) ∧ w1.drew.cell? ⟨w.heap.size, 6, none⟩ = some (.int .i64 id) ∧ w1.drew.cell? ⟨w.heap.size, 7, none⟩ = some (.int .i64 flags) ∧ w1.drew.cell? ⟨w.heap.size, 8, none⟩ = some (.int .i64 off) ∧ w1.drew.cell? ⟨w.heap.size, 9, none⟩ = some (.int .i64 label) ∧ w1.drew.cell? ⟨w.heap.size, 10, none⟩ = some (.string opt) ∧ w1.drew.cell? ⟨w.heap.size, 11, none⟩ = some (.string body)) ∧ (w1.drew.cell? ⟨w.heap.size + 1, 0, none⟩ = some (.int .i64 gsrc) ∧ w1.drew.cell? ⟨w.heap.size + 1, 1, none⟩ = some (.int .i64 gdst) ∧ w1.drew.cell? ⟨w.heap.size + 1, 2, none⟩ = some (.int .u32 seq) ∧ w1.drew.cell? ⟨w.heap.size + 1, 3, none⟩ = some (.int .u32 ack) ∧ w1.drew.cell? ⟨w.heap.size + 1, 4, none⟩ = some (.int .i64 gflags) ∧ w1.drew.cell? ⟨w.heap.size + 1, 5, none⟩ = some (.int .i64 win) ∧ w1.drew.cell? ⟨w.heap.size + 1, 6, none⟩ = some (.int .i64 urgent) ∧ w1.drew.cell? ⟨w.heap.size + 1, 7, none⟩ = some (.string gopt) ∧ w1.drew.cell? ⟨w.heap.size + 1, 8, none⟩ = some (.string gbody) ∧ w1.drew.cell? ⟨w.heap.size + 1, 9, none⟩ = some (.bool nosum))) ∧ Two2 w #[.int .i64 v, .string src, .string dst, .int .i64 proto, .int .i64 hops, .int .i64 cls, .int .i64 id, .int .i64 flags, .int .i64 off, .int .i64 label, .string opt, .string body] #[.int .i64 gsrc, .int .i64 gdst, .int .u32 seq, .int .u32 ack, .int .i64 gflags, .int .i64 win, .int .i64 urgent, .string gopt, .string gbody, .bool nosum] w1.drew := ⟨h.drew.cells, h.drew⟩
def PanicsF (w : World) (n : Int) (e : Ending) (w' : World) : Prop := e = .panicked [{ v := faultV n, recovered := false }] ∧ Below w.heap.size w w'
set_option maxRecDepth 100000 in
set_option maxHeartbeats 3200000 in
theorem blank_ports (v : Int) (src dst : ByteArray) (proto hops cls id flags off label : Int) (opt body : ByteArray) (gsrc gdst seq ack gflags win urgent : Int) (gopt gbody : ByteArray) (nosum : Bool) (w : World) (hbad : (inB gsrc 65535 && inB gdst 65535) = false) :
    Calls Try.prog 45 #[.agg #[.int .i64 v, .string src, .string dst, .int .i64 proto, .int .i64 hops, .int .i64 cls, .int .i64 id, .int .i64 flags, .int .i64 off, .int .i64 label, .string opt, .string body], .agg #[.int .i64 gsrc, .int .i64 gdst, .int .u32 seq, .int .u32 ack, .int .i64 gflags, .int .i64 win, .int .i64 urgent, .string gopt, .string gbody, .bool nosum]] w (PanicsF w 81) := by
  have A0 := in58 gsrc 65535
  have A1 := in58 gdst 65535
  have A2 := req_no 81
  generalize inB gsrc 65535 = b0 at *
  generalize inB gdst 65535 = b1 at *
  have H0 := Lib.hid A0
  have H1 := Lib.hid A1
  have H2 := Lib.hid A2
  have hN := Two2.new w #[.int .i64 v, .string src, .string dst, .int .i64 proto, .int .i64 hops, .int .i64 cls, .int .i64 id, .int .i64 flags, .int .i64 off, .int .i64 label, .string opt, .string body] #[.int .i64 gsrc, .int .i64 gdst, .int .u32 seq, .int .u32 ack, .int .i64 gflags, .int .i64 win, .int .i64 urgent, .string gopt, .string gbody, .bool nosum]
  clear A0 A1 A2
  cases b0
  · go_enter Try.func45, Try.ntmps45
    go_wp2_with (first
      | (go_at_call 59; (first | (with_reducible refine (H0.out _).mono ?_) | (with_reducible refine (H1.out _).mono ?_)); rintro e w' ⟨rfl, rfl⟩)
      | (go_at_call 43; (with_reducible refine (H2.out _).mono ?_); rintro e w' ⟨rfl, rfl⟩))
    exact ⟨rfl, rfl, hN.below⟩
  · obtain rfl : b1 = false := hbad
    go_enter Try.func45, Try.ntmps45
    go_wp2_with (first
      | (go_at_call 59; (first | (with_reducible refine (H0.out _).mono ?_) | (with_reducible refine (H1.out _).mono ?_)); rintro e w' ⟨rfl, rfl⟩)
      | (go_at_call 43; (with_reducible refine (H2.out _).mono ?_); rintro e w' ⟨rfl, rfl⟩))
    exact ⟨rfl, rfl, hN.below⟩
set_option maxRecDepth 100000 in
set_option maxHeartbeats 3200000 in
theorem blank_tcp (v : Int) (src dst : ByteArray) (hops cls id flags off label : Int) (opt body : ByteArray) (gsrc gdst seq ack gflags win urgent : Int) (gopt gbody : ByteArray) (nosum : Bool) (w : World) (hp : 0 ≤ gsrc ∧ gsrc ≤ 65535 ∧ 0 ≤ gdst ∧ gdst ≤ 65535) (hq : 0 ≤ seq ∧ seq < 4294967296) (ha : 0 ≤ ack ∧ ack < 4294967296)
    (ho : gopt.size ≤ 140737488351232) (hb : gbody.size ≤ 140737488351232) (k : Bool) (hk : tcpB gflags win urgent gopt gbody nosum = k) :
    Calls Try.prog 45 #[.agg #[.int .i64 v, .string src, .string dst, .int .i64 6, .int .i64 hops, .int .i64 cls, .int .i64 id, .int .i64 flags, .int .i64 off, .int .i64 label, .string opt, .string body], .agg #[.int .i64 gsrc, .int .i64 gdst, .int .u32 seq, .int .u32 ack, .int .i64 gflags, .int .i64 win, .int .i64 urgent, .string gopt, .string gbody, .bool nosum]] w fun e w' => k = true ∧ (e = .returned (.string (bs gsrc 2 ++ bs gdst 2 ++ restB seq ack gflags win urgent gopt ++ gopt ++ gbody)) ∧ Below w.heap.size w w') ∨ k = false ∧ PanicsF w 81 e w' := by
  have A0 := in58 gsrc 65535
  have A1 := in58 gdst 65535
  have hp0 : inB gsrc 65535 = true := by simp [inB]; omega
  have hp1 : inB gdst 65535 = true := by simp [inB]; omega
  rw [hp0] at A0
  rw [hp1] at A1
  have A3 := fun W => sput_2 gsrc W (by omega) (by omega)
  have A4 := fun W => sput_2 gdst W (by omega) (by omega)
  have s1 := Nat.le_of_eq (bs_size gsrc 2)
  have s2 := Nat.le_of_eq (bs_size gdst 2)
  generalize bs gsrc 2 = T1 at *
  generalize bs gdst 2 = T2 at *
  have H0 := Lib.hid A0
  have H1 := Lib.hid A1
  have H2 := Lib.hid (req_yes 81)
  have HX := Lib.hid (req_no 81)
  have H3 := Lib.hid A3
  have H4 := Lib.hid A4
  have hN := Two2.new w #[.int .i64 v, .string src, .string dst, .int .i64 6, .int .i64 hops, .int .i64 cls, .int .i64 id, .int .i64 flags, .int .i64 off, .int .i64 label, .string opt, .string body] #[.int .i64 gsrc, .int .i64 gdst, .int .u32 seq, .int .u32 ack, .int .i64 gflags, .int .i64 win, .int .i64 urgent, .string gopt, .string gbody, .bool nosum]
  have z2 : ¬ 9223372036854775807 < T1.size + T2.size := by omega
  clear A0 A1 A3 A4 hp0 hp1
  have A5 := fun W => tcp_any gsrc gdst seq ack gflags win urgent gopt gbody nosum W ho hb
  rw [hk] at A5
  have H5 := Lib.hid A5
  clear A5
  cases k
  · clear hk
    go_enter Try.func45, Try.ntmps45
    go_wp2_with (first
      | (go_at_call 59; (first | (with_reducible refine (H0.out _).mono ?_) | (with_reducible refine (H1.out _).mono ?_)); rintro e w' ⟨rfl, rfl⟩)
      | (go_at_call 43; (with_reducible refine (H2.out _).mono ?_); rintro e w' ⟨rfl, rfl⟩))
    have q0 := two_here hN
    go_region_held3 (fun w' => ((w'.cell? ⟨w.heap.size, 0, none⟩ = some (.int .i64 v) ∧ w'.cell? ⟨w.heap.size, 1, none⟩ = some (.string src) ∧ w'.cell? ⟨w.heap.size, 2, none⟩ = some (.string dst) ∧ w'.cell? ⟨w.heap.size, 3, none⟩ = some (.int .i64 6) ∧ w'.cell? ⟨w.heap.size, 4, none⟩ = some (.int .i64 hops) ∧ w'.cell? ⟨w.heap.size, 5, none⟩ = some (.int .i64 cls) ∧ w'.cell? ⟨w.heap.size, 6, none⟩ = some (.int .i64 id) ∧ w'.cell? ⟨w.heap.size, 7, none⟩ = some (.int .i64 flags) ∧ w'.cell? ⟨w.heap.size, 8, none⟩ = some (.int .i64 off) ∧ w'.cell? ⟨w.heap.size, 9, none⟩ = some (.int .i64 label) ∧ w'.cell? ⟨w.heap.size, 10, none⟩ = some (.string opt) ∧ w'.cell? ⟨w.heap.size, 11, none⟩ = some (.string body)) ∧ (w'.cell? ⟨w.heap.size + 1, 0, none⟩ = some (.int .i64 gsrc) ∧ w'.cell? ⟨w.heap.size + 1, 1, none⟩ = some (.int .i64 gdst) ∧ w'.cell? ⟨w.heap.size + 1, 2, none⟩ = some (.int .u32 seq) ∧ w'.cell? ⟨w.heap.size + 1, 3, none⟩ = some (.int .u32 ack) ∧ w'.cell? ⟨w.heap.size + 1, 4, none⟩ = some (.int .i64 gflags) ∧ w'.cell? ⟨w.heap.size + 1, 5, none⟩ = some (.int .i64 win) ∧ w'.cell? ⟨w.heap.size + 1, 6, none⟩ = some (.int .i64 urgent) ∧ w'.cell? ⟨w.heap.size + 1, 7, none⟩ = some (.string gopt) ∧ w'.cell? ⟨w.heap.size + 1, 8, none⟩ = some (.string gbody) ∧ w'.cell? ⟨w.heap.size + 1, 9, none⟩ = some (.bool nosum))) ∧ Two2 w #[.int .i64 v, .string src, .string dst, .int .i64 6, .int .i64 hops, .int .i64 cls, .int .i64 id, .int .i64 flags, .int .i64 off, .int .i64 label, .string opt, .string body] #[.int .i64 gsrc, .int .i64 gdst, .int .u32 seq, .int .u32 ack, .int .i64 gflags, .int .i64 win, .int .i64 urgent, .string gopt, .string gbody, .bool nosum] w')
      (first | exact q0 | assumption | exact two_next (by assumption) hq)
      (first | (go_at_call 84; (first | (with_reducible refine (H3.out _).mono ?_) | (with_reducible refine (H4.out _).mono ?_)); rintro e w' ⟨rfl, hq⟩))
    rename_i hH
    have h1 := hH.2
    clear hH q0 hN
    generalize hTT : T1 ++ T2 = TT at *
    have szT : TT.size ≤ 4 := by rw [← hTT, ByteArray.size_append]; omega
    have HTT := Lib.hid hTT
    clear hTT z2
    obtain ⟨⟨c0, c1, c2, c3, c4, c5, c6, c7, c8, c9, c10, c11⟩, ⟨g0, g1, g2, g3, g4, g5, g6, g7, g8, g9⟩⟩ := h1.cells
    go_wp2_with fail
    refine (H5.out _).mono ?_
    rintro e w2 ⟨rfl, hq2⟩
    have h2 := h1.next hq2
    clear hq2
    go_wp2_with fail
    refine (HX.out _).mono ?_
    rintro e w3 ⟨rfl, rfl⟩
    exact ⟨rfl, .inr ⟨by trivial, rfl, h2.below⟩⟩
  · have hk' := hk
    simp only [tcpB, inB, Bool.and_eq_true, decide_eq_true_eq, Bool.not_eq_true'] at hk'
    obtain ⟨⟨⟨⟨⟨⟨⟨f1, f2⟩, f3, f4⟩, f5, f6⟩, f7⟩, f8⟩, f9⟩, f10⟩ := hk'
    have A6 := fun W => rest_any gsrc gdst seq ack gflags win urgent gopt gbody nosum W hq ha ⟨f1, f2⟩ ⟨f3, f4⟩ ⟨f5, f6⟩ f7
    have sR : (restB seq ack gflags win urgent gopt).size ≤ 16 := by unfold restB; simp only [ByteArray.size_append, bs_size]; omega
    generalize restB seq ack gflags win urgent gopt = R at *
    have H6 := Lib.hid A6
    clear A6 hk f1 f2 f3 f4 f5 f6 f9 hq ha hp
    go_enter Try.func45, Try.ntmps45
    go_wp2_with (first
      | (go_at_call 59; (first | (with_reducible refine (H0.out _).mono ?_) | (with_reducible refine (H1.out _).mono ?_)); rintro e w' ⟨rfl, rfl⟩)
      | (go_at_call 43; (with_reducible refine (H2.out _).mono ?_); rintro e w' ⟨rfl, rfl⟩))
    have q0 := two_here hN
    go_region_held3 (fun w' => ((w'.cell? ⟨w.heap.size, 0, none⟩ = some (.int .i64 v) ∧ w'.cell? ⟨w.heap.size, 1, none⟩ = some (.string src) ∧ w'.cell? ⟨w.heap.size, 2, none⟩ = some (.string dst) ∧ w'.cell? ⟨w.heap.size, 3, none⟩ = some (.int .i64 6) ∧ w'.cell? ⟨w.heap.size, 4, none⟩ = some (.int .i64 hops) ∧ w'.cell? ⟨w.heap.size, 5, none⟩ = some (.int .i64 cls) ∧ w'.cell? ⟨w.heap.size, 6, none⟩ = some (.int .i64 id) ∧ w'.cell? ⟨w.heap.size, 7, none⟩ = some (.int .i64 flags) ∧ w'.cell? ⟨w.heap.size, 8, none⟩ = some (.int .i64 off) ∧ w'.cell? ⟨w.heap.size, 9, none⟩ = some (.int .i64 label) ∧ w'.cell? ⟨w.heap.size, 10, none⟩ = some (.string opt) ∧ w'.cell? ⟨w.heap.size, 11, none⟩ = some (.string body)) ∧ (w'.cell? ⟨w.heap.size + 1, 0, none⟩ = some (.int .i64 gsrc) ∧ w'.cell? ⟨w.heap.size + 1, 1, none⟩ = some (.int .i64 gdst) ∧ w'.cell? ⟨w.heap.size + 1, 2, none⟩ = some (.int .u32 seq) ∧ w'.cell? ⟨w.heap.size + 1, 3, none⟩ = some (.int .u32 ack) ∧ w'.cell? ⟨w.heap.size + 1, 4, none⟩ = some (.int .i64 gflags) ∧ w'.cell? ⟨w.heap.size + 1, 5, none⟩ = some (.int .i64 win) ∧ w'.cell? ⟨w.heap.size + 1, 6, none⟩ = some (.int .i64 urgent) ∧ w'.cell? ⟨w.heap.size + 1, 7, none⟩ = some (.string gopt) ∧ w'.cell? ⟨w.heap.size + 1, 8, none⟩ = some (.string gbody) ∧ w'.cell? ⟨w.heap.size + 1, 9, none⟩ = some (.bool nosum))) ∧ Two2 w #[.int .i64 v, .string src, .string dst, .int .i64 6, .int .i64 hops, .int .i64 cls, .int .i64 id, .int .i64 flags, .int .i64 off, .int .i64 label, .string opt, .string body] #[.int .i64 gsrc, .int .i64 gdst, .int .u32 seq, .int .u32 ack, .int .i64 gflags, .int .i64 win, .int .i64 urgent, .string gopt, .string gbody, .bool nosum] w')
      (first | exact q0 | assumption | exact two_next (by assumption) hq)
      (first | (go_at_call 84; (first | (with_reducible refine (H3.out _).mono ?_) | (with_reducible refine (H4.out _).mono ?_)); rintro e w' ⟨rfl, hq⟩))
    rename_i hH
    have h1 := hH.2
    clear hH q0 hN
    generalize hTT : T1 ++ T2 = TT at *
    have szT : TT.size ≤ 4 := by rw [← hTT, ByteArray.size_append]; omega
    have HTT := Lib.hid hTT
    clear hTT z2
    obtain ⟨⟨c0, c1, c2, c3, c4, c5, c6, c7, c8, c9, c10, c11⟩, ⟨g0, g1, g2, g3, g4, g5, g6, g7, g8, g9⟩⟩ := h1.cells
    go_wp2_with fail
    refine (H5.out _).mono ?_
    rintro e w2 ⟨rfl, hq2⟩
    have h2 := h1.next hq2
    clear hq2 h1 c0 c1 c2 c3 c4 c5 c6 c7 c8 c9 c10 c11 g0 g1 g2 g3 g4 g5 g6 g7 g8 g9
    obtain ⟨⟨c0, c1, c2, c3, c4, c5, c6, c7, c8, c9, c10, c11⟩, ⟨g0, g1, g2, g3, g4, g5, g6, g7, g8, g9⟩⟩ := h2.cells
    go_wp2_with fail
    refine (H2.out _).mono ?_
    rintro e w3 ⟨rfl, rfl⟩
    go_wp2_with fail
    have q0 := two_here h2
    have y1 : ¬ 9223372036854775807 < TT.size + R.size := by omega
    have y2 : ¬ 9223372036854775807 < TT.size + R.size + gopt.size := by omega
    have y3 : ¬ 9223372036854775807 < TT.size + R.size + gopt.size + gbody.size := by omega
    go_region_held3 (fun w' => ((w'.cell? ⟨w.heap.size, 0, none⟩ = some (.int .i64 v) ∧ w'.cell? ⟨w.heap.size, 1, none⟩ = some (.string src) ∧ w'.cell? ⟨w.heap.size, 2, none⟩ = some (.string dst) ∧ w'.cell? ⟨w.heap.size, 3, none⟩ = some (.int .i64 6) ∧ w'.cell? ⟨w.heap.size, 4, none⟩ = some (.int .i64 hops) ∧ w'.cell? ⟨w.heap.size, 5, none⟩ = some (.int .i64 cls) ∧ w'.cell? ⟨w.heap.size, 6, none⟩ = some (.int .i64 id) ∧ w'.cell? ⟨w.heap.size, 7, none⟩ = some (.int .i64 flags) ∧ w'.cell? ⟨w.heap.size, 8, none⟩ = some (.int .i64 off) ∧ w'.cell? ⟨w.heap.size, 9, none⟩ = some (.int .i64 label) ∧ w'.cell? ⟨w.heap.size, 10, none⟩ = some (.string opt) ∧ w'.cell? ⟨w.heap.size, 11, none⟩ = some (.string body)) ∧ (w'.cell? ⟨w.heap.size + 1, 0, none⟩ = some (.int .i64 gsrc) ∧ w'.cell? ⟨w.heap.size + 1, 1, none⟩ = some (.int .i64 gdst) ∧ w'.cell? ⟨w.heap.size + 1, 2, none⟩ = some (.int .u32 seq) ∧ w'.cell? ⟨w.heap.size + 1, 3, none⟩ = some (.int .u32 ack) ∧ w'.cell? ⟨w.heap.size + 1, 4, none⟩ = some (.int .i64 gflags) ∧ w'.cell? ⟨w.heap.size + 1, 5, none⟩ = some (.int .i64 win) ∧ w'.cell? ⟨w.heap.size + 1, 6, none⟩ = some (.int .i64 urgent) ∧ w'.cell? ⟨w.heap.size + 1, 7, none⟩ = some (.string gopt) ∧ w'.cell? ⟨w.heap.size + 1, 8, none⟩ = some (.string gbody) ∧ w'.cell? ⟨w.heap.size + 1, 9, none⟩ = some (.bool nosum))) ∧ Two2 w #[.int .i64 v, .string src, .string dst, .int .i64 6, .int .i64 hops, .int .i64 cls, .int .i64 id, .int .i64 flags, .int .i64 off, .int .i64 label, .string opt, .string body] #[.int .i64 gsrc, .int .i64 gdst, .int .u32 seq, .int .u32 ack, .int .i64 gflags, .int .i64 win, .int .i64 urgent, .string gopt, .string gbody, .bool nosum] w')
      (first | exact q0 | assumption | exact two_next (by assumption) hq)
      (first | (go_at_call 86; ((with_reducible refine (H6.out _).mono ?_); rintro e w' ⟨rfl, hq⟩)))
    all_goals
      rename_i hH
      have hB := hH.2.below
      have hT := HTT.out
      go_wp2
      go_ret
      subst hT
      exact .inl ⟨by trivial, rfl, hB⟩
set_option maxRecDepth 100000 in
set_option maxHeartbeats 3200000 in
theorem blank_udp (v : Int) (src dst : ByteArray) (proto hops cls id flags off label : Int) (opt body : ByteArray) (gsrc gdst seq ack gflags win urgent : Int) (gopt gbody : ByteArray) (nosum : Bool) (w : World) (hpr : proto ≠ 6) (hp : 0 ≤ gsrc ∧ gsrc ≤ 65535 ∧ 0 ≤ gdst ∧ gdst ≤ 65535)
    (hb : gbody.size ≤ 140737488351232) (k : Bool) (hk : udpB seq ack gflags win urgent gopt gbody nosum v = k) :
    Calls Try.prog 45 #[.agg #[.int .i64 v, .string src, .string dst, .int .i64 proto, .int .i64 hops, .int .i64 cls, .int .i64 id, .int .i64 flags, .int .i64 off, .int .i64 label, .string opt, .string body], .agg #[.int .i64 gsrc, .int .i64 gdst, .int .u32 seq, .int .u32 ack, .int .i64 gflags, .int .i64 win, .int .i64 urgent, .string gopt, .string gbody, .bool nosum]] w fun e w' => k = true ∧ (e = .returned (.string (bs gsrc 2 ++ bs gdst 2 ++ bs (8 + gbody.size) 2 ++ bs 0 2 ++ gbody)) ∧ Below w.heap.size w w') ∨ k = false ∧ PanicsF w 81 e w' := by
  have hpr' : (proto == 6) = false := by simpa using hpr
  clear hpr
  have A0 := in58 gsrc 65535
  have A1 := in58 gdst 65535
  have hp0 : inB gsrc 65535 = true := by simp [inB]; omega
  have hp1 : inB gdst 65535 = true := by simp [inB]; omega
  rw [hp0] at A0
  rw [hp1] at A1
  have A3 := fun W => sput_2 gsrc W (by omega) (by omega)
  have A4 := fun W => sput_2 gdst W (by omega) (by omega)
  have s1 := Nat.le_of_eq (bs_size gsrc 2)
  have s2 := Nat.le_of_eq (bs_size gdst 2)
  generalize bs gsrc 2 = T1 at *
  generalize bs gdst 2 = T2 at *
  have H0 := Lib.hid A0
  have H1 := Lib.hid A1
  have H2 := Lib.hid (req_yes 81)
  have HX := Lib.hid (req_no 81)
  have H3 := Lib.hid A3
  have H4 := Lib.hid A4
  have hN := Two2.new w #[.int .i64 v, .string src, .string dst, .int .i64 proto, .int .i64 hops, .int .i64 cls, .int .i64 id, .int .i64 flags, .int .i64 off, .int .i64 label, .string opt, .string body] #[.int .i64 gsrc, .int .i64 gdst, .int .u32 seq, .int .u32 ack, .int .i64 gflags, .int .i64 win, .int .i64 urgent, .string gopt, .string gbody, .bool nosum]
  have z2 : ¬ 9223372036854775807 < T1.size + T2.size := by omega
  clear A0 A1 A3 A4 hp0 hp1
  have A5 := fun W => udp_any gsrc gdst seq ack gflags win urgent gopt gbody nosum v W hb
  rw [hk] at A5
  have H5 := Lib.hid A5
  clear A5
  cases k
  · clear hk
    go_enter Try.func45, Try.ntmps45
    go_wp2_with (first
      | (go_at_call 59; (first | (with_reducible refine (H0.out _).mono ?_) | (with_reducible refine (H1.out _).mono ?_)); rintro e w' ⟨rfl, rfl⟩)
      | (go_at_call 43; (with_reducible refine (H2.out _).mono ?_); rintro e w' ⟨rfl, rfl⟩))
    have q0 := two_here hN
    go_region_held3 (fun w' => ((w'.cell? ⟨w.heap.size, 0, none⟩ = some (.int .i64 v) ∧ w'.cell? ⟨w.heap.size, 1, none⟩ = some (.string src) ∧ w'.cell? ⟨w.heap.size, 2, none⟩ = some (.string dst) ∧ w'.cell? ⟨w.heap.size, 3, none⟩ = some (.int .i64 proto) ∧ w'.cell? ⟨w.heap.size, 4, none⟩ = some (.int .i64 hops) ∧ w'.cell? ⟨w.heap.size, 5, none⟩ = some (.int .i64 cls) ∧ w'.cell? ⟨w.heap.size, 6, none⟩ = some (.int .i64 id) ∧ w'.cell? ⟨w.heap.size, 7, none⟩ = some (.int .i64 flags) ∧ w'.cell? ⟨w.heap.size, 8, none⟩ = some (.int .i64 off) ∧ w'.cell? ⟨w.heap.size, 9, none⟩ = some (.int .i64 label) ∧ w'.cell? ⟨w.heap.size, 10, none⟩ = some (.string opt) ∧ w'.cell? ⟨w.heap.size, 11, none⟩ = some (.string body)) ∧ (w'.cell? ⟨w.heap.size + 1, 0, none⟩ = some (.int .i64 gsrc) ∧ w'.cell? ⟨w.heap.size + 1, 1, none⟩ = some (.int .i64 gdst) ∧ w'.cell? ⟨w.heap.size + 1, 2, none⟩ = some (.int .u32 seq) ∧ w'.cell? ⟨w.heap.size + 1, 3, none⟩ = some (.int .u32 ack) ∧ w'.cell? ⟨w.heap.size + 1, 4, none⟩ = some (.int .i64 gflags) ∧ w'.cell? ⟨w.heap.size + 1, 5, none⟩ = some (.int .i64 win) ∧ w'.cell? ⟨w.heap.size + 1, 6, none⟩ = some (.int .i64 urgent) ∧ w'.cell? ⟨w.heap.size + 1, 7, none⟩ = some (.string gopt) ∧ w'.cell? ⟨w.heap.size + 1, 8, none⟩ = some (.string gbody) ∧ w'.cell? ⟨w.heap.size + 1, 9, none⟩ = some (.bool nosum))) ∧ Two2 w #[.int .i64 v, .string src, .string dst, .int .i64 proto, .int .i64 hops, .int .i64 cls, .int .i64 id, .int .i64 flags, .int .i64 off, .int .i64 label, .string opt, .string body] #[.int .i64 gsrc, .int .i64 gdst, .int .u32 seq, .int .u32 ack, .int .i64 gflags, .int .i64 win, .int .i64 urgent, .string gopt, .string gbody, .bool nosum] w')
      (first | exact q0 | assumption | exact two_next (by assumption) hq)
      (first | (go_at_call 84; (first | (with_reducible refine (H3.out _).mono ?_) | (with_reducible refine (H4.out _).mono ?_)); rintro e w' ⟨rfl, hq⟩))
    rename_i hH
    have h1 := hH.2
    clear hH q0 hN
    generalize hTT : T1 ++ T2 = TT at *
    have szT : TT.size ≤ 4 := by rw [← hTT, ByteArray.size_append]; omega
    have HTT := Lib.hid hTT
    clear hTT z2
    obtain ⟨⟨c0, c1, c2, c3, c4, c5, c6, c7, c8, c9, c10, c11⟩, ⟨g0, g1, g2, g3, g4, g5, g6, g7, g8, g9⟩⟩ := h1.cells
    go_wp2_with fail
    refine (H5.out _).mono ?_
    rintro e w2 ⟨rfl, hq2⟩
    have h2 := h1.next hq2
    clear hq2
    go_wp2_with fail
    refine (HX.out _).mono ?_
    rintro e w3 ⟨rfl, rfl⟩
    exact ⟨rfl, .inr ⟨by trivial, rfl, h2.below⟩⟩
  · have f10 : 8 + (gbody.size : Int) ≤ 65535 := by
      simp only [udpB, Bool.and_eq_true, decide_eq_true_eq] at hk
      exact hk.2
    have A6 := fun W => sput_2 (8 + gbody.size) W (by omega) (by omega)
    have A7 := fun W => sput_2 0 W (by omega) (by omega)
    have s3 := Nat.le_of_eq (bs_size (8 + gbody.size) 2)
    have s4 := Nat.le_of_eq (bs_size 0 2)
    generalize bs (8 + gbody.size) 2 = T3 at *
    generalize bs 0 2 = T4 at *
    have H6 := Lib.hid A6
    have H7 := Lib.hid A7
    clear A6 A7 hk hp
    go_enter Try.func45, Try.ntmps45
    go_wp2_with (first
      | (go_at_call 59; (first | (with_reducible refine (H0.out _).mono ?_) | (with_reducible refine (H1.out _).mono ?_)); rintro e w' ⟨rfl, rfl⟩)
      | (go_at_call 43; (with_reducible refine (H2.out _).mono ?_); rintro e w' ⟨rfl, rfl⟩))
    have q0 := two_here hN
    go_region_held3 (fun w' => ((w'.cell? ⟨w.heap.size, 0, none⟩ = some (.int .i64 v) ∧ w'.cell? ⟨w.heap.size, 1, none⟩ = some (.string src) ∧ w'.cell? ⟨w.heap.size, 2, none⟩ = some (.string dst) ∧ w'.cell? ⟨w.heap.size, 3, none⟩ = some (.int .i64 proto) ∧ w'.cell? ⟨w.heap.size, 4, none⟩ = some (.int .i64 hops) ∧ w'.cell? ⟨w.heap.size, 5, none⟩ = some (.int .i64 cls) ∧ w'.cell? ⟨w.heap.size, 6, none⟩ = some (.int .i64 id) ∧ w'.cell? ⟨w.heap.size, 7, none⟩ = some (.int .i64 flags) ∧ w'.cell? ⟨w.heap.size, 8, none⟩ = some (.int .i64 off) ∧ w'.cell? ⟨w.heap.size, 9, none⟩ = some (.int .i64 label) ∧ w'.cell? ⟨w.heap.size, 10, none⟩ = some (.string opt) ∧ w'.cell? ⟨w.heap.size, 11, none⟩ = some (.string body)) ∧ (w'.cell? ⟨w.heap.size + 1, 0, none⟩ = some (.int .i64 gsrc) ∧ w'.cell? ⟨w.heap.size + 1, 1, none⟩ = some (.int .i64 gdst) ∧ w'.cell? ⟨w.heap.size + 1, 2, none⟩ = some (.int .u32 seq) ∧ w'.cell? ⟨w.heap.size + 1, 3, none⟩ = some (.int .u32 ack) ∧ w'.cell? ⟨w.heap.size + 1, 4, none⟩ = some (.int .i64 gflags) ∧ w'.cell? ⟨w.heap.size + 1, 5, none⟩ = some (.int .i64 win) ∧ w'.cell? ⟨w.heap.size + 1, 6, none⟩ = some (.int .i64 urgent) ∧ w'.cell? ⟨w.heap.size + 1, 7, none⟩ = some (.string gopt) ∧ w'.cell? ⟨w.heap.size + 1, 8, none⟩ = some (.string gbody) ∧ w'.cell? ⟨w.heap.size + 1, 9, none⟩ = some (.bool nosum))) ∧ Two2 w #[.int .i64 v, .string src, .string dst, .int .i64 proto, .int .i64 hops, .int .i64 cls, .int .i64 id, .int .i64 flags, .int .i64 off, .int .i64 label, .string opt, .string body] #[.int .i64 gsrc, .int .i64 gdst, .int .u32 seq, .int .u32 ack, .int .i64 gflags, .int .i64 win, .int .i64 urgent, .string gopt, .string gbody, .bool nosum] w')
      (first | exact q0 | assumption | exact two_next (by assumption) hq)
      (first | (go_at_call 84; (first | (with_reducible refine (H3.out _).mono ?_) | (with_reducible refine (H4.out _).mono ?_)); rintro e w' ⟨rfl, hq⟩))
    rename_i hH
    have h1 := hH.2
    clear hH q0 hN
    generalize hTT : T1 ++ T2 = TT at *
    have szT : TT.size ≤ 4 := by rw [← hTT, ByteArray.size_append]; omega
    have HTT := Lib.hid hTT
    clear hTT z2
    obtain ⟨⟨c0, c1, c2, c3, c4, c5, c6, c7, c8, c9, c10, c11⟩, ⟨g0, g1, g2, g3, g4, g5, g6, g7, g8, g9⟩⟩ := h1.cells
    go_wp2_with fail
    refine (H5.out _).mono ?_
    rintro e w2 ⟨rfl, hq2⟩
    have h2 := h1.next hq2
    clear hq2 h1 c0 c1 c2 c3 c4 c5 c6 c7 c8 c9 c10 c11 g0 g1 g2 g3 g4 g5 g6 g7 g8 g9
    obtain ⟨⟨c0, c1, c2, c3, c4, c5, c6, c7, c8, c9, c10, c11⟩, ⟨g0, g1, g2, g3, g4, g5, g6, g7, g8, g9⟩⟩ := h2.cells
    go_wp2_with fail
    refine (H2.out _).mono ?_
    rintro e w3 ⟨rfl, rfl⟩
    go_wp2_with fail
    have q0 := two_here h2
    have y0 : IntKind.i64.wrap (8 + (gbody.size : Int)) = 8 + (gbody.size : Int) := IntWalk.i64_in _ (by omega)
    have y1 : ¬ 9223372036854775807 < TT.size + T3.size := by omega
    have y2 : ¬ 9223372036854775807 < TT.size + T3.size + T4.size := by omega
    have y3 : ¬ 9223372036854775807 < TT.size + T3.size + T4.size + gbody.size := by omega
    go_region_held3 (fun w' => ((w'.cell? ⟨w.heap.size, 0, none⟩ = some (.int .i64 v) ∧ w'.cell? ⟨w.heap.size, 1, none⟩ = some (.string src) ∧ w'.cell? ⟨w.heap.size, 2, none⟩ = some (.string dst) ∧ w'.cell? ⟨w.heap.size, 3, none⟩ = some (.int .i64 proto) ∧ w'.cell? ⟨w.heap.size, 4, none⟩ = some (.int .i64 hops) ∧ w'.cell? ⟨w.heap.size, 5, none⟩ = some (.int .i64 cls) ∧ w'.cell? ⟨w.heap.size, 6, none⟩ = some (.int .i64 id) ∧ w'.cell? ⟨w.heap.size, 7, none⟩ = some (.int .i64 flags) ∧ w'.cell? ⟨w.heap.size, 8, none⟩ = some (.int .i64 off) ∧ w'.cell? ⟨w.heap.size, 9, none⟩ = some (.int .i64 label) ∧ w'.cell? ⟨w.heap.size, 10, none⟩ = some (.string opt) ∧ w'.cell? ⟨w.heap.size, 11, none⟩ = some (.string body)) ∧ (w'.cell? ⟨w.heap.size + 1, 0, none⟩ = some (.int .i64 gsrc) ∧ w'.cell? ⟨w.heap.size + 1, 1, none⟩ = some (.int .i64 gdst) ∧ w'.cell? ⟨w.heap.size + 1, 2, none⟩ = some (.int .u32 seq) ∧ w'.cell? ⟨w.heap.size + 1, 3, none⟩ = some (.int .u32 ack) ∧ w'.cell? ⟨w.heap.size + 1, 4, none⟩ = some (.int .i64 gflags) ∧ w'.cell? ⟨w.heap.size + 1, 5, none⟩ = some (.int .i64 win) ∧ w'.cell? ⟨w.heap.size + 1, 6, none⟩ = some (.int .i64 urgent) ∧ w'.cell? ⟨w.heap.size + 1, 7, none⟩ = some (.string gopt) ∧ w'.cell? ⟨w.heap.size + 1, 8, none⟩ = some (.string gbody) ∧ w'.cell? ⟨w.heap.size + 1, 9, none⟩ = some (.bool nosum))) ∧ Two2 w #[.int .i64 v, .string src, .string dst, .int .i64 proto, .int .i64 hops, .int .i64 cls, .int .i64 id, .int .i64 flags, .int .i64 off, .int .i64 label, .string opt, .string body] #[.int .i64 gsrc, .int .i64 gdst, .int .u32 seq, .int .u32 ack, .int .i64 gflags, .int .i64 win, .int .i64 urgent, .string gopt, .string gbody, .bool nosum] w')
      (first | exact q0 | assumption | exact two_next (by assumption) hq)
      (first | (go_at_call 84; (first | (with_reducible refine (H6.out _).mono ?_) | (with_reducible refine (H7.out _).mono ?_)); rintro e w' ⟨rfl, hq⟩))
    all_goals
      rename_i hH
      have hB := hH.2.below
      have hT := HTT.out
      go_wp2
      go_ret
      subst hT
      exact .inl ⟨by trivial, rfl, hB⟩
end Go.Proofs.Ytalkpllmcigjnaa
namespace Go.Proofs.Ytalkpllmcigjnaa
open Go.RowKit

theorem assert_fault (n : Int) (W : World) : (Instr.typeAssert (.iface 95 (.agg #[.int .i64 n])) 20 95 true).run Try.prog W = .ok (.tuple #[.agg #[.int .i64 n], .bool true]) W := by kernel_rfl
theorem errorOf_any (n : Int) (w : World) : Calls Try.prog 42 #[faultV n] w fun e w' => e = .returned (.int .i64 n) ∧ Below w.heap.size w w' := by
  have ha := assert_fault n
  unfold faultV
  go_enter Try.func42, Try.ntmps42
  go_wp2
  go_ret
  exact ⟨rfl, (Below.refl _ _).alloc (Nat.le_refl _) _⟩
set_option maxHeartbeats 1600000 in
theorem catchS_panicking (B gs ge : Nat) (n : Int) (older : List PanicEntry) (w0 w : World) (hne : gs ≠ ge) (hB : B ≤ gs) (hB' : B ≤ ge) (c0 c1 : Value)
    (hF : Blk w gs 9 #[c0]) (hE : Blk w ge 24 #[c1]) (hb : Below B w0 w) :
    CallsD Try.prog 41 #[.pointer (some ⟨gs, 0, none⟩), .pointer (some ⟨ge, 0, none⟩)] (.panicking ({ v := faultV n, recovered := false } :: older)) w fun e u' w' =>
      e = .returned (.tuple #[]) ∧ u' = .panicking ({ v := faultV n, recovered := true } :: older) ∧ Blk w' gs 9 #[.string ⟨#[]⟩] ∧ Blk w' ge 24 #[.int .i64 n] ∧ Below B w0 w' := by
  have A := errorOf_any n
  unfold faultV at A
  have HA := Lib.hid A
  have KF := Lib.hid hF
  have KE := Lib.hid hE
  have KB := Lib.hid hb
  clear hF hE hb A
  refine callsD_of_wpS Try.func41 rfl fun c₀ cs hu => ?_
  unfold faultV at *
  apply wpS_seq
  apply wpS_region
  simp [wpOpsS, go_sem, recoverD, hu, Try.ntmps41, Exit.thenS]
  refine wpS_of_wp ?_
  change Code.wp _ _ _ { tmps := #[Value.pointer (some { block := gs, off := 0 }), Value.pointer (some { block := ge, off := 0 }), Value.iface 95 (Value.agg #[.int .i64 n]), Value.iface 95 (Value.agg #[.int .i64 n]), undef, undef, undef, undef], defers := [] } w
  go_wp2_with fail
  refine (HA.out _).mono ?_
  rintro e w1 ⟨rfl, hq⟩
  have hF := KF.out.same (hq.block _ KF.out.lt)
  have hE := KE.out.same (hq.block _ KE.out.lt)
  have hb := KB.out.trans (hq.mono (by have := KF.out.lt; omega))
  have h0 := hF.cell 0
  have h1 := hE.cell 0
  have f0 := hF.frozen 0
  have f1 := hE.frozen 0
  have KF2 := Lib.hid hF
  have KE2 := Lib.hid hE
  have KB2 := Lib.hid hb
  clear hF hE hb hq KF KE KB
  go_wp2_with fail
  refine ⟨rfl, _, rfl, .tuple #[], by simp [results, Try.results41], rfl, rfl, ?_, ?_, ?_⟩
  · exact (KF2.out.put 0 (.string ⟨#[]⟩)).other hne 0 (.int .i64 n)
  · exact (KE2.out.other hne.symm 0 (.string ⟨#[]⟩)).put 0 (.int .i64 n)
  · exact (KB2.out.setCell hB _).setCell hB' _
theorem catchS_idle (gf ge : Nat) (w : World) :
    CallsD Try.prog 41 #[.pointer (some ⟨gf, 0, none⟩), .pointer (some ⟨ge, 0, none⟩)] .returning w fun e u' w' => e = .returned (.tuple #[]) ∧ u' = .returning ∧ w' = w := by
  refine callsD_of_wpS Try.func41 rfl fun c₀ cs hu => ?_
  apply wpS_seq
  apply wpS_region
  simp [wpOpsS, go_sem, recoverD, hu, Try.ntmps41, Exit.thenS]
  refine wpS_of_wp ?_
  change Code.wp _ _ _ { tmps := #[Value.pointer (some { block := gf, off := 0 }), Value.pointer (some { block := ge, off := 0 }), Value.nilIface, Value.nilIface, undef, undef, undef, undef], defers := [] } w
  go_wp2
  cases c₀
  simp_all [bodyPostS, results, Try.results41]
/-- Build under way -/
structure BB (w0 : World) (pc gc : Array Value) (w : World) : Prop where
  two : Two2 w0 pc gc w
  s : Blk w (w0.heap.size + 1 + 1) 9 #[.string ⟨#[]⟩]
  e : Blk w (w0.heap.size + 1 + 1 + 1) 24 #[.int .i64 0]
theorem BB.next {w w1 w' : World} {pc gc : Array Value} (h : BB w pc gc w1) (hq : Below w1.heap.size w1 w') : BB w pc gc w' :=
  ⟨h.two.next hq, h.s.same (hq.block _ h.s.lt), h.e.same (hq.block _ h.e.lt)⟩
theorem BB.new (w : World) (pc gc : Array Value) : BB w pc gc ((((w.alloc (.cells pc 36)).alloc (.cells gc 39)).alloc (.cells #[.string ⟨#[]⟩] 9)).alloc (.cells #[.int .i64 0] 24)) := by
  have h0 := Two2.new w pc gc
  refine ⟨⟨(h0.p.alloc _).alloc _, (h0.g.alloc _).alloc _, (h0.below.alloc (by simp; omega) _).alloc (by simp; omega) _⟩, ?_, ?_⟩
  · have := (Blk.new ((w.alloc (.cells pc 36)).alloc (.cells gc 39)) 9 #[.string ⟨#[]⟩]).alloc (.cells #[.int .i64 0] 24)
    simpa using this
  · have := Blk.new (((w.alloc (.cells pc 36)).alloc (.cells gc 39)).alloc (.cells #[.string ⟨#[]⟩] 9)) 24 #[.int .i64 0]
    simpa using this
theorem segB_results (w : World) (tmps : Array Value) (gf ge : Nat) {x : ByteArray} {n : Int} (h2 : tmps[4]?.getD undef = .pointer (some ⟨gf, 0, none⟩)) (h3 : tmps[5]?.getD undef = .pointer (some ⟨ge, 0, none⟩))
    (hF : Blk w gf 9 #[.string x]) (hE : Blk w ge 24 #[.int .i64 n]) : (results Try.f19 tmps).run Try.prog w = .ok (.tuple #[.string x, .int .i64 n]) w := by
  have c0 := hF.cell 0
  have c1 := hE.cell 0
  simp [results, Try.results19, go_sem, h2, h3, c0, c1]
def Says (w : World) (x : ByteArray) (n : Int) (e : Ending) (w' : World) : Prop := e = .returned (.tuple #[.string x, .int .i64 n]) ∧ Below w.heap.size w w'
theorem doorS_panic (w w1 : World) (tmps : Array Value) (n : Int) (h2 : tmps[4]?.getD undef = .pointer (some ⟨w.heap.size + 1 + 1, 0, none⟩)) (h3 : tmps[5]?.getD undef = .pointer (some ⟨w.heap.size + 1 + 1 + 1, 0, none⟩)) {pc gc : Array Value} (h : BB w pc gc w1) :
    bodyPostD Try.prog Try.f19 (Says w ⟨#[]⟩ n) (.panic [{ v := faultV n, recovered := false }])
      { tmps := tmps, defers := [{ target := .fn (.func 41) #[.pointer (some ⟨w.heap.size + 1 + 1, 0, none⟩), .pointer (some ⟨w.heap.size + 1 + 1 + 1, 0, none⟩)], args := #[] }] } w1 := by
  refine leaves_cons (f := 41) (args := #[.pointer (some ⟨w.heap.size + 1 + 1, 0, none⟩), .pointer (some ⟨w.heap.size + 1 + 1 + 1, 0, none⟩)]) (by simp) (by simp [go_sem]) ?_
  refine (catchS_panicking w.heap.size (w.heap.size + 1 + 1) (w.heap.size + 1 + 1 + 1) n [] w w1 (by omega) (by omega) (by omega) _ _ h.s h.e h.two.below).mono ?_
  rintro e u' w'' ⟨rfl, rfl, hF, hE, hb⟩
  exact ⟨_, segB_results w'' tmps _ _ h2 h3 hF hE, rfl, hb⟩
theorem doorS_ret (w w1 : World) (tmps : Array Value) {n : Int} {x : ByteArray} (h2 : tmps[4]?.getD undef = .pointer (some ⟨w.heap.size + 1 + 1, 0, none⟩)) (h3 : tmps[5]?.getD undef = .pointer (some ⟨w.heap.size + 1 + 1 + 1, 0, none⟩))
    (hF : Blk w1 (w.heap.size + 1 + 1) 9 #[.string x]) (hE : Blk w1 (w.heap.size + 1 + 1 + 1) 24 #[.int .i64 n]) (hb : Below w.heap.size w w1) :
    bodyPostD Try.prog Try.f19 (Says w x n) .ret
      { tmps := tmps, defers := [{ target := .fn (.func 41) #[.pointer (some ⟨w.heap.size + 1 + 1, 0, none⟩), .pointer (some ⟨w.heap.size + 1 + 1 + 1, 0, none⟩)], args := #[] }] } w1 := by
  refine leaves_cons (f := 41) (args := #[.pointer (some ⟨w.heap.size + 1 + 1, 0, none⟩), .pointer (some ⟨w.heap.size + 1 + 1 + 1, 0, none⟩)]) (by simp) (by simp [go_sem]) ?_
  refine (catchS_idle (w.heap.size + 1 + 1) (w.heap.size + 1 + 1 + 1) w1).mono ?_
  rintro e u' w'' ⟨rfl, rfl, rfl⟩
  exact ⟨_, segB_results w'' tmps _ _ h2 h3 hF hE, rfl, hb⟩
set_option maxRecDepth 100000 in
set_option maxHeartbeats 3200000 in
theorem seg_cannot (v : Int) (src dst : ByteArray) (proto hops cls id flags off label : Int) (opt body : ByteArray) (gsrc gdst seq ack gflags win urgent : Int) (gopt gbody : ByteArray) (nosum : Bool) (w : World) (A1 : ∀ W, Calls Try.prog 44 #[.agg #[.int .i64 v, .string src, .string dst, .int .i64 proto, .int .i64 hops, .int .i64 cls, .int .i64 id, .int .i64 flags, .int .i64 off, .int .i64 label, .string opt, .string body]] W fun e w' => e = .returned (.bool false) ∧ Below W.heap.size W w') : Calls Try.prog 19 #[.agg #[.int .i64 v, .string src, .string dst, .int .i64 proto, .int .i64 hops, .int .i64 cls, .int .i64 id, .int .i64 flags, .int .i64 off, .int .i64 label, .string opt, .string body], .agg #[.int .i64 gsrc, .int .i64 gdst, .int .u32 seq, .int .u32 ack, .int .i64 gflags, .int .i64 win, .int .i64 urgent, .string gopt, .string gbody, .bool nosum]] w (Says w ⟨#[]⟩ 81) := by
  have H1 := Lib.hid A1
  have HX := Lib.hid (req_no 81)
  clear A1
  have hmf := make_func
  have hN := BB.new w #[.int .i64 v, .string src, .string dst, .int .i64 proto, .int .i64 hops, .int .i64 cls, .int .i64 id, .int .i64 flags, .int .i64 off, .int .i64 label, .string opt, .string body] #[.int .i64 gsrc, .int .i64 gdst, .int .u32 seq, .int .u32 ack, .int .i64 gflags, .int .i64 win, .int .i64 urgent, .string gopt, .string gbody, .bool nosum]
  go_enter_defers Try.func19, Try.ntmps19
  go_wp2_with fail
  refine (H1.out _).mono ?_
  rintro e w1 ⟨rfl, hq⟩
  have h1 := hN.next hq
  clear hq hN
  obtain ⟨⟨c0, c1, c2, c3, c4, c5, c6, c7, c8, c9, c10, c11⟩, ⟨g0, g1, g2, g3, g4, g5, g6, g7, g8, g9⟩⟩ := h1.two.cells
  have d0 := h1.s.cell 0
  have d1 := h1.e.cell 0
  have x0 := h1.s.frozen 0
  have x1 := h1.e.frozen 0
  go_wp2_with fail
  refine (HX.out _).mono ?_
  rintro e w2 ⟨rfl, rfl⟩
  exact doorS_panic w _ _ 81 rfl rfl h1
set_option maxRecDepth 100000 in
set_option maxHeartbeats 3200000 in
theorem seg_bad (v : Int) (src dst : ByteArray) (proto hops cls id flags off label : Int) (opt body : ByteArray) (gsrc gdst seq ack gflags win urgent : Int) (gopt gbody : ByteArray) (nosum : Bool) (w : World) (A1 : ∀ W, Calls Try.prog 44 #[.agg #[.int .i64 v, .string src, .string dst, .int .i64 proto, .int .i64 hops, .int .i64 cls, .int .i64 id, .int .i64 flags, .int .i64 off, .int .i64 label, .string opt, .string body]] W fun e w' => e = .returned (.bool true) ∧ Below W.heap.size W w') (A2 : ∀ W, Calls Try.prog 45 #[.agg #[.int .i64 v, .string src, .string dst, .int .i64 proto, .int .i64 hops, .int .i64 cls, .int .i64 id, .int .i64 flags, .int .i64 off, .int .i64 label, .string opt, .string body], .agg #[.int .i64 gsrc, .int .i64 gdst, .int .u32 seq, .int .u32 ack, .int .i64 gflags, .int .i64 win, .int .i64 urgent, .string gopt, .string gbody, .bool nosum]] W fun e w' => e = .panicked [{ v := faultV 81, recovered := false }] ∧ Below W.heap.size W w') : Calls Try.prog 19 #[.agg #[.int .i64 v, .string src, .string dst, .int .i64 proto, .int .i64 hops, .int .i64 cls, .int .i64 id, .int .i64 flags, .int .i64 off, .int .i64 label, .string opt, .string body], .agg #[.int .i64 gsrc, .int .i64 gdst, .int .u32 seq, .int .u32 ack, .int .i64 gflags, .int .i64 win, .int .i64 urgent, .string gopt, .string gbody, .bool nosum]] w (Says w ⟨#[]⟩ 81) := by
  have H1 := Lib.hid A1
  have H2 := Lib.hid A2
  have HR := Lib.hid (req_yes 81)
  clear A1 A2
  have hmf := make_func
  have hN := BB.new w #[.int .i64 v, .string src, .string dst, .int .i64 proto, .int .i64 hops, .int .i64 cls, .int .i64 id, .int .i64 flags, .int .i64 off, .int .i64 label, .string opt, .string body] #[.int .i64 gsrc, .int .i64 gdst, .int .u32 seq, .int .u32 ack, .int .i64 gflags, .int .i64 win, .int .i64 urgent, .string gopt, .string gbody, .bool nosum]
  go_enter_defers Try.func19, Try.ntmps19
  go_wp2_with fail
  refine (H1.out _).mono ?_
  rintro e w1 ⟨rfl, hq⟩
  have h1 := hN.next hq
  clear hq hN
  obtain ⟨⟨c0, c1, c2, c3, c4, c5, c6, c7, c8, c9, c10, c11⟩, ⟨g0, g1, g2, g3, g4, g5, g6, g7, g8, g9⟩⟩ := h1.two.cells
  have d0 := h1.s.cell 0
  have d1 := h1.e.cell 0
  have x0 := h1.s.frozen 0
  have x1 := h1.e.frozen 0
  go_wp2_with fail
  refine (HR.out _).mono ?_
  rintro e w2 ⟨rfl, rfl⟩
  go_wp2_with fail
  refine (H2.out _).mono ?_
  rintro e w3 ⟨rfl, hq⟩
  have h3 := h1.next hq
  clear hq h1 c0 c1 c2 c3 c4 c5 c6 c7 c8 c9 c10 c11 g0 g1 g2 g3 g4 g5 g6 g7 g8 g9 d0 d1 x0 x1
  obtain ⟨⟨c0, c1, c2, c3, c4, c5, c6, c7, c8, c9, c10, c11⟩, ⟨g0, g1, g2, g3, g4, g5, g6, g7, g8, g9⟩⟩ := h3.two.cells
  have d0 := h3.s.cell 0
  have d1 := h3.e.cell 0
  have x0 := h3.s.frozen 0
  have x1 := h3.e.frozen 0
  exact doorS_panic w _ _ 81 rfl rfl h3
set_option maxRecDepth 100000 in
set_option maxHeartbeats 3200000 in
theorem seg_plain (v : Int) (src dst : ByteArray) (proto hops cls id flags off label : Int) (opt body : ByteArray) (gsrc gdst seq ack gflags win urgent : Int) (gopt gbody : ByteArray) (nosum : Bool) (w : World) (bk : ByteArray) (hn : nosum = true) (A1 : ∀ W, Calls Try.prog 44 #[.agg #[.int .i64 v, .string src, .string dst, .int .i64 proto, .int .i64 hops, .int .i64 cls, .int .i64 id, .int .i64 flags, .int .i64 off, .int .i64 label, .string opt, .string body]] W fun e w' => e = .returned (.bool true) ∧ Below W.heap.size W w') (A2 : ∀ W, Calls Try.prog 45 #[.agg #[.int .i64 v, .string src, .string dst, .int .i64 proto, .int .i64 hops, .int .i64 cls, .int .i64 id, .int .i64 flags, .int .i64 off, .int .i64 label, .string opt, .string body], .agg #[.int .i64 gsrc, .int .i64 gdst, .int .u32 seq, .int .u32 ack, .int .i64 gflags, .int .i64 win, .int .i64 urgent, .string gopt, .string gbody, .bool nosum]] W fun e w' => e = .returned (.string bk) ∧ Below W.heap.size W w') : Calls Try.prog 19 #[.agg #[.int .i64 v, .string src, .string dst, .int .i64 proto, .int .i64 hops, .int .i64 cls, .int .i64 id, .int .i64 flags, .int .i64 off, .int .i64 label, .string opt, .string body], .agg #[.int .i64 gsrc, .int .i64 gdst, .int .u32 seq, .int .u32 ack, .int .i64 gflags, .int .i64 win, .int .i64 urgent, .string gopt, .string gbody, .bool nosum]] w (Says w bk 0) := by
  subst hn
  have H1 := Lib.hid A1
  have H2 := Lib.hid A2
  have HR := Lib.hid (req_yes 81)
  clear A1 A2
  have hmf := make_func
  have hN := BB.new w #[.int .i64 v, .string src, .string dst, .int .i64 proto, .int .i64 hops, .int .i64 cls, .int .i64 id, .int .i64 flags, .int .i64 off, .int .i64 label, .string opt, .string body] #[.int .i64 gsrc, .int .i64 gdst, .int .u32 seq, .int .u32 ack, .int .i64 gflags, .int .i64 win, .int .i64 urgent, .string gopt, .string gbody, .bool true]
  go_enter_defers Try.func19, Try.ntmps19
  go_wp2_with fail
  refine (H1.out _).mono ?_
  rintro e w1 ⟨rfl, hq⟩
  have h1 := hN.next hq
  clear hq hN
  obtain ⟨⟨c0, c1, c2, c3, c4, c5, c6, c7, c8, c9, c10, c11⟩, ⟨g0, g1, g2, g3, g4, g5, g6, g7, g8, g9⟩⟩ := h1.two.cells
  have d0 := h1.s.cell 0
  have d1 := h1.e.cell 0
  have x0 := h1.s.frozen 0
  have x1 := h1.e.frozen 0
  go_wp2_with fail
  refine (HR.out _).mono ?_
  rintro e w2 ⟨rfl, rfl⟩
  go_wp2_with fail
  refine (H2.out _).mono ?_
  rintro e w3 ⟨rfl, hq⟩
  have h3 := h1.next hq
  clear hq h1 c0 c1 c2 c3 c4 c5 c6 c7 c8 c9 c10 c11 g0 g1 g2 g3 g4 g5 g6 g7 g8 g9 d0 d1 x0 x1
  obtain ⟨⟨c0, c1, c2, c3, c4, c5, c6, c7, c8, c9, c10, c11⟩, ⟨g0, g1, g2, g3, g4, g5, g6, g7, g8, g9⟩⟩ := h3.two.cells
  have d0 := h3.s.cell 0
  have d1 := h3.e.cell 0
  have x0 := h3.s.frozen 0
  have x1 := h3.e.frozen 0
  go_wp2_with fail
  exact doorS_ret w _ _ rfl rfl ((h3.s.put 0 (.string bk)).other (by omega) 0 (.int .i64 0)) ((h3.e.other (by omega) 0 (.string bk)).put 0 (.int .i64 0)) ((h3.two.below.setCell (by show _ ≤ w.heap.size + 1 + 1; omega) _).setCell (by show _ ≤ w.heap.size + 1 + 1 + 1; omega) _)
set_option maxRecDepth 100000 in
set_option maxHeartbeats 3200000 in
theorem seg_sum (v : Int) (src dst : ByteArray) (proto hops cls id flags off label : Int) (opt body : ByteArray) (gsrc gdst seq ack gflags win urgent : Int) (gopt gbody : ByteArray) (nosum : Bool) (w : World) (bk R : ByteArray) (hn : nosum = false) (A1 : ∀ W, Calls Try.prog 44 #[.agg #[.int .i64 v, .string src, .string dst, .int .i64 proto, .int .i64 hops, .int .i64 cls, .int .i64 id, .int .i64 flags, .int .i64 off, .int .i64 label, .string opt, .string body]] W fun e w' => e = .returned (.bool true) ∧ Below W.heap.size W w') (A2 : ∀ W, Calls Try.prog 45 #[.agg #[.int .i64 v, .string src, .string dst, .int .i64 proto, .int .i64 hops, .int .i64 cls, .int .i64 id, .int .i64 flags, .int .i64 off, .int .i64 label, .string opt, .string body], .agg #[.int .i64 gsrc, .int .i64 gdst, .int .u32 seq, .int .u32 ack, .int .i64 gflags, .int .i64 win, .int .i64 urgent, .string gopt, .string gbody, .bool nosum]] W fun e w' => e = .returned (.string bk) ∧ Below W.heap.size W w') (A3 : ∀ W, Calls Try.prog 46 #[.agg #[.int .i64 v, .string src, .string dst, .int .i64 proto, .int .i64 hops, .int .i64 cls, .int .i64 id, .int .i64 flags, .int .i64 off, .int .i64 label, .string opt, .string body], .string bk] W fun e w' => e = .returned (.string R) ∧ Below W.heap.size W w') : Calls Try.prog 19 #[.agg #[.int .i64 v, .string src, .string dst, .int .i64 proto, .int .i64 hops, .int .i64 cls, .int .i64 id, .int .i64 flags, .int .i64 off, .int .i64 label, .string opt, .string body], .agg #[.int .i64 gsrc, .int .i64 gdst, .int .u32 seq, .int .u32 ack, .int .i64 gflags, .int .i64 win, .int .i64 urgent, .string gopt, .string gbody, .bool nosum]] w (Says w R 0) := by
  subst hn
  have H1 := Lib.hid A1
  have H2 := Lib.hid A2
  have H3 := Lib.hid A3
  have HR := Lib.hid (req_yes 81)
  clear A1 A2 A3
  have hmf := make_func
  have hN := BB.new w #[.int .i64 v, .string src, .string dst, .int .i64 proto, .int .i64 hops, .int .i64 cls, .int .i64 id, .int .i64 flags, .int .i64 off, .int .i64 label, .string opt, .string body] #[.int .i64 gsrc, .int .i64 gdst, .int .u32 seq, .int .u32 ack, .int .i64 gflags, .int .i64 win, .int .i64 urgent, .string gopt, .string gbody, .bool false]
  go_enter_defers Try.func19, Try.ntmps19
  go_wp2_with fail
  refine (H1.out _).mono ?_
  rintro e w1 ⟨rfl, hq⟩
  have h1 := hN.next hq
  clear hq hN
  obtain ⟨⟨c0, c1, c2, c3, c4, c5, c6, c7, c8, c9, c10, c11⟩, ⟨g0, g1, g2, g3, g4, g5, g6, g7, g8, g9⟩⟩ := h1.two.cells
  have d0 := h1.s.cell 0
  have d1 := h1.e.cell 0
  have x0 := h1.s.frozen 0
  have x1 := h1.e.frozen 0
  go_wp2_with fail
  refine (HR.out _).mono ?_
  rintro e w2 ⟨rfl, rfl⟩
  go_wp2_with fail
  refine (H2.out _).mono ?_
  rintro e w3 ⟨rfl, hq⟩
  have h3 := h1.next hq
  clear hq h1 c0 c1 c2 c3 c4 c5 c6 c7 c8 c9 c10 c11 g0 g1 g2 g3 g4 g5 g6 g7 g8 g9 d0 d1 x0 x1
  obtain ⟨⟨c0, c1, c2, c3, c4, c5, c6, c7, c8, c9, c10, c11⟩, ⟨g0, g1, g2, g3, g4, g5, g6, g7, g8, g9⟩⟩ := h3.two.cells
  have d0 := h3.s.cell 0
  have d1 := h3.e.cell 0
  have x0 := h3.s.frozen 0
  have x1 := h3.e.frozen 0
  go_wp2_with fail
  refine (H3.out _).mono ?_
  rintro e w4 ⟨rfl, hq⟩
  have h4 := h3.next hq
  clear hq h3 c0 c1 c2 c3 c4 c5 c6 c7 c8 c9 c10 c11 g0 g1 g2 g3 g4 g5 g6 g7 g8 g9 d0 d1 x0 x1
  obtain ⟨⟨c0, c1, c2, c3, c4, c5, c6, c7, c8, c9, c10, c11⟩, ⟨g0, g1, g2, g3, g4, g5, g6, g7, g8, g9⟩⟩ := h4.two.cells
  have d0 := h4.s.cell 0
  have d1 := h4.e.cell 0
  have x0 := h4.s.frozen 0
  have x1 := h4.e.frozen 0
  go_wp2_with fail
  exact doorS_ret w _ _ rfl rfl ((h4.s.put 0 (.string R)).other (by omega) 0 (.int .i64 0)) ((h4.e.other (by omega) 0 (.string R)).put 0 (.int .i64 0)) ((h4.two.below.setCell (by show _ ≤ w.heap.size + 1 + 1; omega) _).setCell (by show _ ≤ w.heap.size + 1 + 1 + 1; omega) _)
end Go.Proofs.Ytalkpllmcigjnaa
namespace Go.Proofs.Ytalkpllmcigjnaa
open Go.RowKit

/-- The pseudo header. -/
def pseudoB (p : Pk) (n : Int) : ByteArray := if p.v = 4 then p.src ++ p.dst ++ bs 0 1 ++ bs p.proto 1 ++ bs n 2 else p.src ++ p.dst ++ bs n 4 ++ bs 0 3 ++ bs p.proto 1
def kindOk (p : Pk) (g : Sg) : Bool := if p.proto = 6 then tcpB g.flags g.win g.urgent g.opt g.body g.nosum else udpB g.seq g.ack g.flags g.win g.urgent g.opt g.body g.nosum p.v
def portsOk (g : Sg) : Bool := inB g.src 65535 && inB g.dst 65535
def blankS (p : Pk) (g : Sg) : ByteArray := if p.proto = 6 then bs g.src 2 ++ bs g.dst 2 ++ restB g.seq g.ack g.flags g.win g.urgent g.opt ++ g.opt ++ g.body else bs g.src 2 ++ bs g.dst 2 ++ bs (8 + g.body.size) 2 ++ bs 0 2 ++ g.body
def segOk (p : Pk) (g : Sg) : Bool := canB p && (portsOk g && kindOk p g)
def segE (p : Pk) (g : Sg) : Int := if segOk p g = true then 0 else 81
def segS (p : Pk) (g : Sg) : ByteArray := if segOk p g = true then (if g.nosum = true then blankS p g else withS (blankS p g) (atV p.proto) (segSum (pseudoB p (blankS p g).size ++ withS (blankS p g) (atV p.proto) 0))) else ⟨#[]⟩
theorem inB_iff {v m : Int} : inB v m = true ↔ 0 ≤ v ∧ v ≤ m := by simp [inB]
theorem canB_iff {p : Pk} : canB p = true ↔ ((p.v = 4 ∧ p.src.size = 4 ∧ p.dst.size = 4) ∨ (p.v = 6 ∧ p.src.size = 16 ∧ p.dst.size = 16)) ∧ (p.proto = 6 ∨ p.proto = 17) ∧ p.off = 0 ∧ p.flags % 2 = 0 := by
  unfold canB hasB
  by_cases h4 : p.v = 4
  · simp [h4, and_assoc]
  · by_cases h6 : p.v = 6
    · simp [h6, and_assoc]
    · simp [h4, h6]
theorem rest_size (seq ack gflags win urgent : Int) (gopt : ByteArray) : (restB seq ack gflags win urgent gopt).size = 16 := by
  unfold restB; simp only [ByteArray.size_append, bs_size]
theorem blank_tcp_size {p : Pk} {g : Sg} (h : p.proto = 6) : (blankS p g).size = 20 + g.opt.size + g.body.size := by
  rw [blankS, if_pos h]; simp only [ByteArray.size_append, bs_size, rest_size]
theorem blank_udp_size {p : Pk} {g : Sg} (h : p.proto ≠ 6) : (blankS p g).size = 8 + g.body.size := by
  rw [blankS, if_neg h]; simp only [ByteArray.size_append, bs_size]
theorem kind_size {p : Pk} {g : Sg} (h : kindOk p g = true) : (blankS p g).size ≤ 65535 ∧ atV p.proto + 2 ≤ (blankS p g).size := by
  unfold kindOk at h
  by_cases h6 : p.proto = 6
  · rw [if_pos h6] at h
    simp only [tcpB, Bool.and_eq_true, decide_eq_true_eq] at h
    rw [blank_tcp_size h6, atV, if_pos h6]
    omega
  · rw [if_neg h6] at h
    simp only [udpB, Bool.and_eq_true, decide_eq_true_eq] at h
    rw [blank_udp_size h6, atV, if_neg h6]
    omega
theorem seg_any (p : Pk) (g : Sg) (w : World) (hq : 0 ≤ g.seq ∧ g.seq < 4294967296) (ha : 0 ≤ g.ack ∧ g.ack < 4294967296) (ho : g.opt.size ≤ 140737488351232) (hb : g.body.size ≤ 140737488351232) :
    Calls Try.prog 19 #[.agg #[.int .i64 p.v, .string p.src, .string p.dst, .int .i64 p.proto, .int .i64 p.hops, .int .i64 p.cls, .int .i64 p.id, .int .i64 p.flags, .int .i64 p.off, .int .i64 p.label, .string p.opt, .string p.body], .agg #[.int .i64 g.src, .int .i64 g.dst, .int .u32 g.seq, .int .u32 g.ack, .int .i64 g.flags, .int .i64 g.win, .int .i64 g.urgent, .string g.opt, .string g.body, .bool g.nosum]] w (Says w (segS p g) (segE p g)) := by
  have A1 := can_any p
  cases hc : canB p
  · have hk : segOk p g = false := by rw [segOk, hc]; rfl
    rw [segS, segE, hk, if_neg (by simp), if_neg (by simp)]
    rw [hc] at A1
    exact seg_cannot _ _ _ _ _ _ _ _ _ _ _ _ _ _ _ _ _ _ _ _ _ _ w A1
  · rw [hc] at A1
    cases hp : portsOk g
    · have hk : segOk p g = false := by rw [segOk, hc, hp]; rfl
      rw [segS, segE, hk, if_neg (by simp), if_neg (by simp)]
      exact seg_bad _ _ _ _ _ _ _ _ _ _ _ _ _ _ _ _ _ _ _ _ _ _ w A1 (fun W => blank_ports _ _ _ _ _ _ _ _ _ _ _ _ _ _ _ _ _ _ _ _ _ _ W hp)
    · have hp' := hp
      simp only [portsOk, Bool.and_eq_true, inB_iff] at hp'
      obtain ⟨⟨p1, p2⟩, p3, p4⟩ := hp'
      have A2 : ∀ W, Calls Try.prog 45 #[.agg #[.int .i64 p.v, .string p.src, .string p.dst, .int .i64 p.proto, .int .i64 p.hops, .int .i64 p.cls, .int .i64 p.id, .int .i64 p.flags, .int .i64 p.off, .int .i64 p.label, .string p.opt, .string p.body], .agg #[.int .i64 g.src, .int .i64 g.dst, .int .u32 g.seq, .int .u32 g.ack, .int .i64 g.flags, .int .i64 g.win, .int .i64 g.urgent, .string g.opt, .string g.body, .bool g.nosum]] W fun e w' => kindOk p g = true ∧ (e = .returned (.string (blankS p g)) ∧ Below W.heap.size W w') ∨ kindOk p g = false ∧ PanicsF W 81 e w' := by
        intro W
        unfold kindOk blankS
        by_cases h6 : p.proto = 6
        · rw [if_pos h6, if_pos h6, h6]
          exact blank_tcp _ _ _ _ _ _ _ _ _ _ _ _ _ _ _ _ _ _ _ _ _ W ⟨p1, p2, p3, p4⟩ hq ha ho hb _ rfl
        · rw [if_neg h6, if_neg h6]
          exact blank_udp _ _ _ _ _ _ _ _ _ _ _ _ _ _ _ _ _ _ _ _ _ _ W h6 ⟨p1, p2, p3, p4⟩ hb _ rfl
      cases hk : kindOk p g
      · have hk' : segOk p g = false := by rw [segOk, hc, hp, hk]; rfl
        rw [segS, segE, hk', if_neg (by simp), if_neg (by simp)]
        rw [hk] at A2
        have A2' : ∀ W, Calls Try.prog 45 #[.agg #[.int .i64 p.v, .string p.src, .string p.dst, .int .i64 p.proto, .int .i64 p.hops, .int .i64 p.cls, .int .i64 p.id, .int .i64 p.flags, .int .i64 p.off, .int .i64 p.label, .string p.opt, .string p.body], .agg #[.int .i64 g.src, .int .i64 g.dst, .int .u32 g.seq, .int .u32 g.ack, .int .i64 g.flags, .int .i64 g.win, .int .i64 g.urgent, .string g.opt, .string g.body, .bool g.nosum]] W fun e w' => e = .panicked [{ v := faultV 81, recovered := false }] ∧ Below W.heap.size W w' := fun W => (A2 W).mono fun e w' h => by
          rcases h with ⟨h, _⟩ | ⟨_, h⟩
          · cases h
          · exact h
        exact seg_bad _ _ _ _ _ _ _ _ _ _ _ _ _ _ _ _ _ _ _ _ _ _ w A1 A2'
      · have hk' : segOk p g = true := by rw [segOk, hc, hp, hk]; rfl
        have hz := kind_size hk
        rw [hk] at A2
        have A2' : ∀ W, Calls Try.prog 45 #[.agg #[.int .i64 p.v, .string p.src, .string p.dst, .int .i64 p.proto, .int .i64 p.hops, .int .i64 p.cls, .int .i64 p.id, .int .i64 p.flags, .int .i64 p.off, .int .i64 p.label, .string p.opt, .string p.body], .agg #[.int .i64 g.src, .int .i64 g.dst, .int .u32 g.seq, .int .u32 g.ack, .int .i64 g.flags, .int .i64 g.win, .int .i64 g.urgent, .string g.opt, .string g.body, .bool g.nosum]] W fun e w' => e = .returned (.string (blankS p g)) ∧ Below W.heap.size W w' := fun W => (A2 W).mono fun e w' h => by
          rcases h with ⟨_, h⟩ | ⟨h, _⟩
          · exact h
          · cases h
        rw [segS, segE, hk', if_pos rfl, if_pos rfl]
        cases hn : g.nosum
        · rw [if_neg (by simp)]
          have A3 : ∀ W, Calls Try.prog 32 #[.agg #[.int .i64 p.v, .string p.src, .string p.dst, .int .i64 p.proto, .int .i64 p.hops, .int .i64 p.cls, .int .i64 p.id, .int .i64 p.flags, .int .i64 p.off, .int .i64 p.label, .string p.opt, .string p.body], .int .i64 (blankS p g).size] W fun e w' => e = .returned (.string (pseudoB p (blankS p g).size)) ∧ Below W.heap.size W w' := by
            intro W
            unfold pseudoB
            obtain ⟨hv, hpr, _⟩ := canB_iff.1 hc
            rcases hv with ⟨hv, h1, h2⟩ | ⟨hv, h1, h2⟩
            · rw [if_pos hv, hv]
              exact pseudo_4 _ _ _ _ _ _ _ _ _ _ _ _ W h1 h2 (by omega) (by omega)
            · rw [if_neg (by omega), hv]
              exact pseudo_6 _ _ _ _ _ _ _ _ _ _ _ _ W h1 h2 (by omega) (by omega)
          have hps : (pseudoB p (blankS p g).size).size ≤ 40 := by
            unfold pseudoB
            obtain ⟨hv, _⟩ := canB_iff.1 hc
            split <;> simp only [ByteArray.size_append, bs_size] <;> omega
          have := seg_sum _ _ _ _ _ _ _ _ _ _ _ _ g.src g.dst g.seq g.ack g.flags g.win g.urgent g.opt g.body g.nosum w (blankS p g) _ hn A1 A2' (fun W => segSummed_any _ _ _ _ _ _ _ _ _ _ _ _ (blankS p g) _ W hz.1 hps hz.2 A3)
          rw [hn] at this
          exact this
        · rw [if_pos rfl]
          have := seg_plain _ _ _ _ _ _ _ _ _ _ _ _ g.src g.dst g.seq g.ack g.flags g.win g.urgent g.opt g.body g.nosum w (blankS p g) hn A1 A2'
          rw [hn] at this
          exact this
end Go.Proofs.Ytalkpllmcigjnaa
