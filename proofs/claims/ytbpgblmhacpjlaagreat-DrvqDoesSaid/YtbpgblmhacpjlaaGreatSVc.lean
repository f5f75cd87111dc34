/-
  drvq: encoding, a descriptor's bytes; descriptor, what stands at a place; no condition.
-/
import Derived.Test.YtbpgblmhacpjlaaGreatSVb
import Derived.Test.YtbpgblmhacpjlaaGreatZh
namespace Go.Proofs.YtbpgblmhacpjlaaGreat
open Go.RowKit

/-- the flags of a chain's descriptor: is there one behind it, is it writable, which time round -/
def flN (more wr : Bool) : Nat := (if more then 1 else 0) + (if wr then 2 else 0)
def flF (more wr wv : Bool) : Nat := flN more wr + mk wv (wv == false)
theorem flN_rest (more wr : Bool) : Rest (flN more wr) := by cases more <;> cases wr <;> exact ⟨by decide, by decide, by decide⟩
theorem flF_lt (more wr wv : Bool) : flF more wr wv ≤ 65535 := by
  have := mk_lt _ (flN_rest more wr) wv (wv == false)
  unfold flF; omega
/-- a descriptor's bytes -/
def encB (a n id : Nat) (more wr wv : Bool) : ByteArray := desB a n id (flF more wr wv)
theorem desB_size (A L I F : Nat) : (desB A L I F).size = 16 := by
  unfold desB
  simp [ByteArray.size_append, pb_size]
theorem encB_size (a n id : Nat) (more wr wv : Bool) : (encB a n id more wr wv).size = 16 := desB_size _ _ _ _
/-- encoding's last region -/
def EF (w : World) (gq b o : Nat) (x y u v : Value) (W : World) : Prop :=
  (W.cell? ⟨b, o, none⟩ = some x ∧ W.cell? ⟨b, o + 1, none⟩ = some y ∧ W.cell? ⟨gq, 5, none⟩ = some u ∧ W.cell? ⟨gq, 6, none⟩ = some v) ∧ Below w.heap.size w W
section
variable {w w1 w' : World} {gq b o : Nat} {x y u v : Value}
theorem EF.next (hb : b < w.heap.size) (hq : gq < w.heap.size) (h : EF w gq b o x y u v w1) (hn : Below w1.heap.size w1 w') : EF w gq b o x y u v w' := by
  have hs := h.2.size
  have c := (bcell hn).1
  exact ⟨⟨(c _ _ (by omega)).trans h.1.1, (c _ _ (by omega)).trans h.1.2.1, (c _ _ (by omega)).trans h.1.2.2.1, (c _ _ (by omega)).trans h.1.2.2.2⟩, b0 h.2 hn⟩
theorem EF.below (h : EF w gq b o x y u v w1) : Below w.heap.size w w1 := h.2
theorem EF.drew (hb : b < w.heap.size) (hq : gq < w.heap.size) (h : EF w gq b o x y u v w1) : EF w gq b o x y u v w1.drew := h.next hb hq (Below.refl _ _).drew
end
theorem field_s (a : Int) (v : Bool) (W : World) : (Instr.field 44 (.agg #[.int .i64 a, .bool v]) 1).run Tryz.prog W = .ok (.bool v) W := by
  first | kernel_rfl | rfl
set_option maxRecDepth 100000 in
set_option maxHeartbeats 3200000 in
theorem enc_walk {w : World} {gq b off len i : Nat} {q : Vs} {g bm low cap : Nat} (hB : Blk w gq 77 (q.cells g bm low)) (hb : b < w.heap.size) (a n id : Nat) (wr more : Bool)
    (c0 : w.cell? ⟨b, off + i * 3, none⟩ = some (.int .i64 (a : Int))) (c1 : w.cell? ⟨b, off + i * 3 + 1, none⟩ = some (.int .i64 (n : Int))) (c2 : w.cell? ⟨b, off + i * 3 + 2, none⟩ = some (.bool wr))
    (hi : i < len) (hl : len ≤ 64) (hm : decide (i + 1 < len) = more) (ha : a ≤ 1048576) (hn : n ≤ 1048576) (A : Nat) (V : Bool) (F : Nat) (S : ByteArray)
    (HAf : ∀ W, Below w.heap.size w W → Calls Tryz.prog 30 #[.pointer (some ⟨gq, 0, none⟩), .agg #[.int .i64 (q.na : Int), .bool q.nw], .int .i64 (i : Int)] W fun e w' => e = .returned (.agg #[.int .i64 (A : Int), .bool V]) ∧ Below W.heap.size W w')
    (HMk : ∀ W, Calls Tryz.prog 84 #[.int .i64 (flN more wr : Int), .bool V, .bool false] W fun e w' => e = .returned (.int .i64 (F : Int)) ∧ W = w')
    (HBd : ∀ W, Calls Tryz.prog 83 #[.agg #[.int .u64 (a : Int), .int .u32 (n : Int), .int .i64 (id : Int), .int .i64 (F : Int)]] W fun e w' => e = .returned (.tuple #[.string S, .int .i64 0]) ∧ Below W.heap.size W w') :
    Calls Tryz.prog 62 #[.pointer (some ⟨gq, 0, none⟩), .int .i64 (id : Int), .slice (some ⟨b, off, none⟩) len cap, .int .i64 (i : Int)] w fun e w' => e = .returned (.string S) ∧ Below w.heap.size w w' := by
  have HAf := Lib.hid HAf
  have HMk := Lib.hid HMk
  have HBd := Lib.hid HBd
  have q5 : w.cell? ⟨gq, 5, none⟩ = some (.int .i64 (q.na : Int)) := hB.cell 5
  have q6 : w.cell? ⟨gq, 6, none⟩ = some (.bool q.nw) := hB.cell 6
  have hlt := hB.lt
  have hne := Nat.ne_of_lt hlt
  have hneb := Nat.ne_of_lt hb
  have HE : Hid (EF w gq b (off + i * 3) (.int .i64 (a : Int)) (.int .i64 (n : Int)) (.int .i64 (q.na : Int)) (.bool q.nw) w) := Lib.hid ⟨⟨c0, c1, q5, q6⟩, Below.refl _ _⟩
  have v1 : IntKind.i64.wrap ((len : Int) - 1) = (len : Int) - 1 := by rw [IntKind.wrap_i64]; omega
  have v2 : IntKind.u64.wrap (a : Int) = (a : Int) := by rw [IntKind.wrap_u64]; omega
  have v3 : IntKind.u32.wrap (n : Int) = (n : Int) := by rw [IntKind.wrap_u32]; omega
  have o1 : bits .or .i64 0 1 = 1 := by decide
  have o2 : bits .or .i64 1 2 = 3 := by decide
  have o3 : bits .or .i64 0 2 = 2 := by decide
  have hmore : (more = true ∧ (i : Int) < (len : Int) - 1) ∨ (more = false ∧ ¬ (i : Int) < (len : Int) - 1) := by
    cases more
    · right; simp at hm; exact ⟨rfl, by omega⟩
    · left; simp at hm; exact ⟨rfl, by omega⟩
  have hfd := fun W => field_s (A : Int) V W
  have hil : (i : Int) < (len : Int) := by omega
  have hi0 : i < len := hi
  generalize (q.na : Int) = na at *
  generalize q.nw = nw at *
  clear hm hl hB ha hn hi
  rcases hmore with ⟨rfl, hmo⟩ | ⟨rfl, hmo⟩
  all_goals
    cases wr
    all_goals
      have HMk := HMk.out
      first
        | rw [show ((flN true true : Nat) : Int) = 3 from rfl] at HMk
        | rw [show ((flN true false : Nat) : Int) = 1 from rfl] at HMk
        | rw [show ((flN false true : Nat) : Int) = 2 from rfl] at HMk
        | rw [show ((flN false false : Nat) : Int) = 0 from rfl] at HMk
      have HMk := Lib.hid HMk
      go_enter Tryz.func62, Tryz.ntmps62
      go_wp2_with fail
      go_region_held3 (fun W => (W.cell? ⟨b, off + i * 3, none⟩ = some (.int .i64 (a : Int)) ∧ W.cell? ⟨b, off + i * 3 + 1, none⟩ = some (.int .i64 (n : Int)) ∧ W.cell? ⟨gq, 5, none⟩ = some (.int .i64 na) ∧ W.cell? ⟨gq, 6, none⟩ = some (.bool nw)) ∧ Below w.heap.size w W)
        ((refine (_root_.id (α := EF w gq b (off + i * 3) (.int .i64 (a : Int)) (.int .i64 (n : Int)) (.int .i64 na) (.bool nw) _) ?_); with_reducible (first | exact HE.out.drew hb hlt | exact EF.next hb hlt (HE.out.drew hb hlt) hq | exact EF.next hb hlt (EF.next hb hlt (HE.out.drew hb hlt) hq) hq2)))
        (first
          | (go_at_call 30; ((with_reducible refine (HAf.out _ (HE.out.drew hb hlt).below).mono ?_); rintro e w1 ⟨rfl, hq⟩))
          | (go_at_call 84; ((with_reducible refine (HMk.out _).mono ?_); rintro e w' ⟨rfl, rfl⟩))
          | (go_at_call 83; ((with_reducible refine (HBd.out _).mono ?_); rintro e w2 ⟨rfl, hq2⟩)))
      go_wp2_with fail
      go_ret
      exact ⟨rfl, b0 (b0 (HE.out.drew hb hlt).below hq) hq2⟩
theorem mark_fl (more wr V : Bool) (W : World) : Calls Tryz.prog 84 #[.int .i64 (flN more wr : Int), .bool V, .bool false] W fun e w' => e = .returned (.int .i64 (flF more wr V : Int)) ∧ W = w' :=
  mark_any (flN more wr) (flN_rest more wr) false false V false W
theorem enc_v {w : World} {gq b off len i : Nat} {q : Vs} {g bm low cap : Nat} (hB : Blk w gq 77 (q.cells g bm low)) (hb : b < w.heap.size) (a n id : Nat) (wr more : Bool)
    (c0 : w.cell? ⟨b, off + i * 3, none⟩ = some (.int .i64 (a : Int))) (c1 : w.cell? ⟨b, off + i * 3 + 1, none⟩ = some (.int .i64 (n : Int))) (c2 : w.cell? ⟨b, off + i * 3 + 2, none⟩ = some (.bool wr))
    (hi : i < len) (hl : len ≤ 64) (hm : decide (i + 1 < len) = more) (ha : a ≤ 1048576) (hn : n ≤ 1048576) (hid : id ≤ 65535) (s1 : 1 ≤ q.size) (s2 : q.size ≤ 32768) (hna : q.na < q.size) (his : i ≤ q.size) :
    Calls Tryz.prog 62 #[.pointer (some ⟨gq, 0, none⟩), .int .i64 (id : Int), .slice (some ⟨b, off, none⟩) len cap, .int .i64 (i : Int)] w fun e w' => e = .returned (.string (encB a n id more wr (stW q.size q.na i q.nw))) ∧ Below w.heap.size w w' := by
  refine enc_walk hB hb a n id wr more c0 c1 c2 hi hl hm ha hn (stA q.size q.na i) (stW q.size q.na i q.nw) (flF more wr (stW q.size q.na i q.nw)) _ (fun W hW => ?_) (fun W => mark_fl _ _ _ W) (fun W => ?_)
  · exact after_v (w := W) (n := q.size) ⟨by have := hW.size; have := hB.lt; omega, ((bcell hW).1 gq 2 hB.lt).trans (hB.cell 2)⟩ q.na i q.nw s1 s2 hna his
  · exact build_ok a n id _ (by omega) (by omega) hid (flF_lt _ _ _) W

end Go.Proofs.YtbpgblmhacpjlaaGreat
