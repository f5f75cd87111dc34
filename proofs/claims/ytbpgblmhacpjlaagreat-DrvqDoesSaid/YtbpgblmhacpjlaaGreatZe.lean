/-
  What is read; the document's memory.
-/
import Derived.Test.YtbpgblmhacpjlaaGreatZd
import Derived.OwnWalk
import Derived.Maps.AppendAt
import Derived.RegionTactic
namespace Go.Proofs.YtbpgblmhacpjlaaGreat
open Go.RowKit

/-! A slice that reads as a list, nil let in; append of such a slice -/
def Reads (w : World) (B size : Nat) (A : Option Addr) (n : Nat) (xs : List Value) : Prop :=
  xs.length = n * size ∧ (0 < n → ∃ ad, A = some ad ∧ ad.block < B ∧ ∀ j u, xs[j]? = some u → w.cell? (ad.add j) = some u)
theorem Reads.of_own {w : World} {base size n : Nat} {A : Option Addr} {xs : List Value} {e : TypeId} {c : Nat} (h : w.ownsRow base e size (.slice A n c) n xs) : Reads w w.heap.size size A n xs := by
  refine ⟨h.1, fun hn => ?_⟩
  obtain ⟨g, cap, hv, _, hlt⟩ := h.form hn
  have hA : A = some ⟨g, 0, none⟩ := by injection hv
  subst hA
  exact ⟨_, rfl, hlt, h.cells (g := g) rfl⟩
section
variable {P : Program} (w : World)
theorem run_append_of_nil (base : Nat) (t ty e : TypeId) (i : TypeInfo) (size : Nat) (ht : P.underlying t = some (.slice e)) (hi : P.info? e = some i)
    (v : Value) (n : Nat) (xs : List Value) (hown : w.ownsRow base e size v n xs) (c : Nat) : (Builtin.append_ #[t, t] ty #[v, .slice none 0 c]).run P w = .ok v w := by
  rcases hown.2 with ⟨rfl, rfl⟩ | ⟨g, cap, cur, rfl, _, _, hnc, _⟩
  · simp [Builtin.append_, run_underlying ht, sizeOf, typeInfo, hi, Builtin.lenOf, Builtin.firstCells]
  · simp [Builtin.append_, run_underlying ht, sizeOf, typeInfo, hi, Builtin.lenOf, Builtin.firstCells, hnc, storeCells]
theorem run_append_any (base : Nat) (t ty e : TypeId) (i : TypeInfo) (z : Value) (size bytes : Nat) (ht : P.underlying t = some (.slice e)) (hi : P.info? e = some i) (hz : i.zero = some z)
    (hsize : i.size = size) (hby : i.bytes = bytes) (hzs : z.cells.size = size) (hsz : 0 < size)
    (v : Value) (n : Nat) (xs : List Value) (hown : w.ownsRow base e size v n xs)
    (B : Nat) (A : Option Addr) (m c : Nat) (news : List Value) (hr : Reads w B size A m news) (h1 : ∀ u ∈ news, u.oneCell' = true)
    (h63 : n + m ≤ maxLen) (hbytes : (n + m) * bytes ≤ 140737488355328) (hbase : base ≤ w.heap.size) :
    ∃ v' w', (Builtin.append_ #[t, t] ty #[v, .slice A m c]).run P w = .ok v' w' ∧ w'.ownsRow base e size v' (n + m) (xs ++ news) ∧ w.grownBy w' v.ownBlock ∧
      (v'.ownBlock = v.ownBlock ∨ v'.ownBlock = some w.heap.size) := by
  rcases A with _ | ad
  · have hm : m = 0 := by
      rcases Nat.eq_zero_or_pos m with h0 | h0
      · exact h0
      · obtain ⟨ad, h, _⟩ := hr.2 h0
        cases h
    subst hm
    have hn : news = [] := List.eq_nil_of_length_eq_zero (by simpa using hr.1)
    subst hn
    exact ⟨v, w, run_append_of_nil w base t ty e i size ht hi v n xs hown c, by simpa using hown, World.grownBy.refl w _, .inl rfl⟩
  · have hcells : ∀ j u, news[j]? = some u → w.cell? (ad.add j) = some u := by
      intro j u hu
      rcases Nat.eq_zero_or_pos m with h0 | h0
      · subst h0
        have hn : news = [] := List.eq_nil_of_length_eq_zero (by simpa using hr.1)
        subst hn
        simp at hu
      · obtain ⟨ad', h, _, hc⟩ := hr.2 h0
        injection h with h
        subst h
        exact hc j u hu
    obtain ⟨v', w', hrun, h2, h3, _, h5⟩ := run_append_own_at (P := P) w base t ty e i z size bytes ht hi hz hsize hby hzs hsz v n xs hown ad m c news hr.1 hcells h1 h63 hbytes hbase
    exact ⟨v', w', hrun, h2, h3, h5⟩
theorem wp_append_any {o : Oper} {a : Act} {K : Act → World → Prop} {Q : Exit → Act → World → Prop} (s x : Operand) (t : TypeId)
    (ho : o.op = .call { callee := .builtin .append, args := #[s, x], argTypes := #[t, t] })
    (base : Nat) (e : TypeId) (i : TypeInfo) (z : Value) (size bytes : Nat) (ht : P.underlying t = some (.slice e)) (hi : P.info? e = some i) (hz : i.zero = some z)
    (hsize : i.size = size) (hby : i.bytes = bytes) (hzs : z.cells.size = size) (hsz : 0 < size)
    (v : Value) (n : Nat) (xs : List Value) (hs : a.eval s = v) (hown : w.ownsRow base e size v n xs)
    (B : Nat) (A : Option Addr) (m c : Nat) (news : List Value) (hx : a.eval x = .slice A m c) (hr : Reads w B size A m news) (h1 : ∀ u ∈ news, u.oneCell' = true)
    (h63 : n + m ≤ maxLen) (hbytes : (n + m) * bytes ≤ 140737488355328) (hbase : base ≤ w.heap.size)
    (h : ∀ v' w', w'.ownsRow base e size v' (n + m) (xs ++ news) → w.grownBy w' v.ownBlock → (v'.ownBlock = v.ownBlock ∨ v'.ownBlock = some w.heap.size) → K (a.put o.dst v') w') : o.wp P a w K Q := by
  obtain ⟨v', w', hrun, h2, h3, h4⟩ := run_append_any (P := P) w base t o.type e i z size bytes ht hi hz hsize hby hzs hsz v n xs hown B A m c news hr h1 h63 hbytes hbase
  unfold Oper.wp execOp
  simp only [ho, resolve, invoke, builtin, Sem.run_bind, Sem.run_pure, Result.andThen_ok, List.map_toArray, List.map_cons, List.map_nil, hs, hx, hrun]
  exact h v' w' h2 h3 h4

theorem step_append_any {ops : Array Oper} {o : Oper} {a : Act} {K : Act → World → Prop} {Q : Exit → Act → World → Prop} {E : Prop} (hgd : o.guard = none) (s x : Operand) (t : TypeId)
    (ho : o.op = .call { callee := .builtin .append, args := #[s, x], argTypes := #[t, t] })
    (base : Nat) (e : TypeId) (i : TypeInfo) (z : Value) (size bytes : Nat) (ht : P.underlying t = some (.slice e)) (hi : P.info? e = some i) (hz : i.zero = some z)
    (hsize : i.size = size) (hby : i.bytes = bytes) (hzs : z.cells.size = size) (hsz : 0 < size)
    (v : Value) (n : Nat) (xs : List Value) (hs : a.eval s = v) (hown : w.ownsRow base e size v n xs)
    (B : Nat) (A : Option Addr) (m c : Nat) (news : List Value) (hx : a.eval x = .slice A m c) (hr : Reads w B size A m news) (h1 : ∀ u ∈ news, u.oneCell' = true)
    (h63 : n + m ≤ maxLen) (hbytes : (n + m) * bytes ≤ 140737488355328) (hbase : base ≤ w.heap.size)
    (h : ∀ v' w', w'.ownsRow base e size v' (n + m) (xs ++ news) → w.grownBy w' v.ownBlock → (v'.ownBlock = v.ownBlock ∨ v'.ownBlock = some w.heap.size) → K (a.put o.dst v') w') :
    if Region.wanted o (yielded ops a.tmps) = true then Oper.wp P o a w K Q else E := by
  have hw : Region.wanted o (yielded ops a.tmps) = true := by simp [Region.wanted, hgd]
  rw [if_pos hw]
  exact wp_append_any w s x t ho base e i z size bytes ht hi hz hsize hby hzs hsz v n xs hs hown B A m c news hx hr h1 h63 hbytes hbase h
end
end Go.Proofs.YtbpgblmhacpjlaaGreat
namespace Go.Proofs.YtbpgblmhacpjlaaGreat
open Go.RowKit

/-- The document's memory behind a pointer: its block, its log's value, its bytes, its log. -/
structure Mr (B gm : Nat) (lv : Value) (xs : List UInt8) (lg : List Acc) (w : World) : Prop where
  hB : B ≤ gm
  blk : ∃ ag : Int, Blk w gm 73 #[.string ⟨xs.toArray⟩, .int .i64 ag, lv]
  log : w.ownsRow B 121 4 lv lg.length (logCells lg)
  nil : lg = [] → lv = .slice none 0 0
  len : xs.length ≤ 1048576
section
variable {B gm : Nat} {lv : Value} {xs : List UInt8} {lg : List Acc} {w w' : World}
theorem Mr.lt (h : Mr B gm lv xs lg w) : gm < w.heap.size := by obtain ⟨ag, hb⟩ := h.blk; exact hb.lt
theorem Mr.c0 (h : Mr B gm lv xs lg w) : w.cell? ⟨gm, 0, none⟩ = some (.string ⟨xs.toArray⟩) := by obtain ⟨ag, hb⟩ := h.blk; exact hb.cell 0
theorem Mr.kept (h : Mr B gm lv xs lg w) (h1 : w'.heap[gm]? = w.heap[gm]?) (h2 : ∀ k, lv.ownBlock = some k → w'.heap[k]? = w.heap[k]?) : Mr B gm lv xs lg w' := by
  obtain ⟨ag, hb⟩ := h.blk
  exact ⟨h.hB, ⟨ag, hb.same h1⟩, own_same h.log h2, h.nil, h.len⟩
theorem Mr.below (h : Mr B gm lv xs lg w) (hb : Below w.heap.size w w') : Mr B gm lv xs lg w' := h.kept (hb.block _ h.lt) (fun k hk => hb.block k (h.log.lt k hk).2)
/-- what a call on it leaves: it, with a log that is its own; nothing else that was there has turned -/
def Rnoted (B gm : Nat) (lv : Value) (xs : List UInt8) (lg : List Acc) (w w' : World) : Prop :=
  ∃ lv', Mr B gm lv' xs lg w' ∧ (w'.os = w.os ∧ w'.tape = w.tape ∧ w'.output = w.output ∧ w.heap.size ≤ w'.heap.size ∧ ∀ k, k < w.heap.size → k ≠ gm → w'.heap[k]? = w.heap[k]?) ∧ ∀ k, lv'.ownBlock = some k → lv.ownBlock = some k ∨ w.heap.size ≤ k
set_option maxRecDepth 100000 in
theorem rmay_yes (h : Mr B gm lv xs lg w) (a n : Int) (h0 : 0 ≤ n) (h1 : 0 ≤ a) (h2 : a + n ≤ xs.length) :
    Calls Tryz.prog 31 #[.pointer (some ⟨gm, 0, none⟩), .int .i64 a, .int .i64 n] w fun e w' => e = .returned (.bool true) ∧ w = w' := by
  have hc := h.c0
  have hl := h.len
  obtain ⟨s, hs⟩ : ∃ s : ByteArray, (⟨xs.toArray⟩ : ByteArray) = s := ⟨_, rfl⟩
  have hz : s.size = xs.length := by rw [← hs]; show xs.toArray.size = _; simp
  rw [hs] at hc
  have h3 : n ≤ (s.size : Int) := by omega
  have h4 : a ≤ (s.size : Int) - n := by omega
  have hb : (s.size : Int) ≤ 1048576 := by omega
  clear h hs hz hl h2
  go_enter Tryz.func31, Tryz.ntmps31
  go_wp2
  go_ret
  exact ⟨rfl, rfl⟩
set_option maxRecDepth 100000 in
theorem rmay_no (h : Mr B gm lv xs lg w) (a n : Int) (hno : ¬ (0 ≤ n ∧ 0 ≤ a ∧ a + n ≤ xs.length)) :
    Calls Tryz.prog 31 #[.pointer (some ⟨gm, 0, none⟩), .int .i64 a, .int .i64 n] w fun e w' => e = .returned (.bool false) ∧ w = w' := by
  have hc := h.c0
  have hl := h.len
  obtain ⟨s, hs⟩ : ∃ s : ByteArray, (⟨xs.toArray⟩ : ByteArray) = s := ⟨_, rfl⟩
  have hz : s.size = xs.length := by rw [← hs]; show xs.toArray.size = _; simp
  rw [hs] at hc
  have hb : (s.size : Int) ≤ 1048576 := by omega
  by_cases h1 : 0 ≤ a
  · by_cases h0 : 0 ≤ n
    · by_cases h3 : n ≤ (s.size : Int)
      · have h4 : (s.size : Int) - n < a := by omega
        clear h hs hz hl hno
        go_enter Tryz.func31, Tryz.ntmps31
        go_wp2
        go_ret
        exact ⟨ret_bool (decide_eq_false (by omega)), rfl⟩
      · have h4 : (s.size : Int) < n := by omega
        clear h hs hz hl hno
        go_enter Tryz.func31, Tryz.ntmps31
        go_wp2
        go_ret
        exact ⟨rfl, rfl⟩
    · clear h hs hz hl hno hb
      go_enter Tryz.func31, Tryz.ntmps31
      go_wp2
      go_ret
      exact ⟨rfl, rfl⟩
  · clear h hs hz hl hno hb
    go_enter Tryz.func31, Tryz.ntmps31
    go_wp2
    go_ret
    exact ⟨rfl, rfl⟩
theorem rmay_any (h : Mr B gm lv xs lg w) (a n : Int) :
    Calls Tryz.prog 31 #[.pointer (some ⟨gm, 0, none⟩), .int .i64 a, .int .i64 n] w fun e w' => e = .returned (.bool (decide (0 ≤ n ∧ 0 ≤ a ∧ a + n ≤ xs.length))) ∧ w = w' := by
  by_cases k : 0 ≤ n ∧ 0 ≤ a ∧ a + n ≤ xs.length
  · rw [decide_eq_true k]; exact rmay_yes h a n k.1 k.2.1 k.2.2
  · rw [decide_eq_false k]; exact rmay_no h a n k
theorem rnote_none (h : Mr B gm lv xs lg w) (hl : lg.length ≤ 4000) (a : Int) (wr : Bool) :
    Calls Tryz.prog 42 #[.pointer (some ⟨gm, 0, none⟩), .int .i64 a, .int .i64 0, .bool wr] w fun e w' => e = .returned (.tuple #[]) ∧ w = w' := by
  obtain ⟨A, cap, rfl⟩ := own_form h.log
  obtain ⟨ag, hb⟩ := h.blk
  have hc : w.cell? ⟨gm, 2, none⟩ = some (.slice A lg.length cap) := hb.cell 2
  have hl2 : ¬ 4096 < lg.length := by omega
  clear h hb hl
  go_enter Tryz.func42, Tryz.ntmps42
  go_wp2_with fail
  first | go_end0 | (refine bodyPost_ret (results_none rfl _ _ _) rfl ?_)
  exact ⟨rfl, rfl⟩
end
end Go.Proofs.YtbpgblmhacpjlaaGreat
