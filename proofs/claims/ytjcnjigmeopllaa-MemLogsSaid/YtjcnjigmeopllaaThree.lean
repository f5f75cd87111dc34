/-
  A memory and two lists of accesses that share nothing, over calls and appends; no condition.
-/
import Derived.Test.YtjcnjigmeopllaaWnum
import Derived.OwnWalk
namespace Go.Proofs.Ytjcnjigmeopllaa
open Go.RowKit

/-! A slice that reads as a list, nil let in; append of such a slice -/
def Reads (w : World) (B size : Nat) (A : Option Addr) (n : Nat) (xs : List Value) : Prop :=
  xs.length = n * size ∧ (0 < n → ∃ ad, A = some ad ∧ ad.block < B ∧ ∀ j u, xs[j]? = some u → w.cell? (ad.add j) = some u)
theorem Reads.of_own {w : World} {base size n : Nat} {A : Option Addr} {xs : List Value} {e : TypeId} {c : Nat} (h : w.ownsRow base e size (.slice A n c) n xs) : Reads w w.heap.size size A n xs := by
  refine ⟨h.1, fun hn => ?_⟩
  obtain ⟨g, cap, hv, _, hlt⟩ := h.form hn
  have hA : A = some ⟨g, 0, none⟩ := by injection hv
  subst hA
  exact ⟨_, rfl, hlt, h.cells (g := g) rfl⟩
section
variable {P : Program} (w : World)
theorem run_append_of_nil (base : Nat) (t ty e : TypeId) (i : TypeInfo) (size : Nat) (ht : P.underlying t = some (.slice e)) (hi : P.info? e = some i)
    (v : Value) (n : Nat) (xs : List Value) (hown : w.ownsRow base e size v n xs) (c : Nat) : (Builtin.append_ #[t, t] ty #[v, .slice none 0 c]).run P w = .ok v w := by
  rcases hown.2 with ⟨rfl, rfl⟩ | ⟨g, cap, cur, rfl, _, _, hnc, _⟩
  · simp [Builtin.append_, run_underlying ht, sizeOf, typeInfo, hi, Builtin.lenOf, Builtin.firstCells]
  · simp [Builtin.append_, run_underlying ht, sizeOf, typeInfo, hi, Builtin.lenOf, Builtin.firstCells, hnc, storeCells]
theorem run_append_any (base : Nat) (t ty e : TypeId) (i : TypeInfo) (z : Value) (size bytes : Nat) (ht : P.underlying t = some (.slice e)) (hi : P.info? e = some i) (hz : i.zero = some z)
    (hsize : i.size = size) (hby : i.bytes = bytes) (hzs : z.cells.size = size) (hsz : 0 < size)
    (v : Value) (n : Nat) (xs : List Value) (hown : w.ownsRow base e size v n xs)
    (B : Nat) (A : Option Addr) (m c : Nat) (news : List Value) (hr : Reads w B size A m news) (h1 : ∀ u ∈ news, u.oneCell' = true)
    (h63 : n + m ≤ maxLen) (hbytes : (n + m) * bytes ≤ 140737488355328) (hbase : base ≤ w.heap.size) :
    ∃ v' w', (Builtin.append_ #[t, t] ty #[v, .slice A m c]).run P w = .ok v' w' ∧ w'.ownsRow base e size v' (n + m) (xs ++ news) ∧ w.grownBy w' v.ownBlock ∧
      (v'.ownBlock = v.ownBlock ∨ v'.ownBlock = some w.heap.size) := by
  rcases A with _ | ad
  · have hm : m = 0 := by
      rcases Nat.eq_zero_or_pos m with h0 | h0
      · exact h0
      · obtain ⟨ad, h, _⟩ := hr.2 h0
        cases h
    subst hm
    have hn : news = [] := List.eq_nil_of_length_eq_zero (by simpa using hr.1)
    subst hn
    exact ⟨v, w, run_append_of_nil w base t ty e i size ht hi v n xs hown c, by simpa using hown, World.grownBy.refl w _, .inl rfl⟩
  · have hcells : ∀ j u, news[j]? = some u → w.cell? (ad.add j) = some u := by
      intro j u hu
      rcases Nat.eq_zero_or_pos m with h0 | h0
      · subst h0
        have hn : news = [] := List.eq_nil_of_length_eq_zero (by simpa using hr.1)
        subst hn
        simp at hu
      · obtain ⟨ad', h, _, hc⟩ := hr.2 h0
        injection h with h
        subst h
        exact hc j u hu
    obtain ⟨v', w', hrun, h2, h3, _, h5⟩ := run_append_own_at (P := P) w base t ty e i z size bytes ht hi hz hsize hby hzs hsz v n xs hown ad m c news hr.1 hcells h1 h63 hbytes hbase
    exact ⟨v', w', hrun, h2, h3, h5⟩
theorem wpList_append_any {ops : Array Oper} {rest : List Oper} {o : Oper} {a : Act} {Q : Exit → Act → World → Prop} (hgd : o.guard = none) (s x : Operand) (t : TypeId)
    (ho : o.op = .call { callee := .builtin .append, args := #[s, x], argTypes := #[t, t] })
    (base : Nat) (e : TypeId) (i : TypeInfo) (z : Value) (size bytes : Nat) (ht : P.underlying t = some (.slice e)) (hi : P.info? e = some i) (hz : i.zero = some z)
    (hsize : i.size = size) (hby : i.bytes = bytes) (hzs : z.cells.size = size) (hsz : 0 < size)
    (v : Value) (n : Nat) (xs : List Value) (hs : a.eval s = v) (hown : w.ownsRow base e size v n xs)
    (B : Nat) (A : Option Addr) (m c : Nat) (news : List Value) (hx : a.eval x = .slice A m c) (hr : Reads w B size A m news) (h1 : ∀ u ∈ news, u.oneCell' = true)
    (h63 : n + m ≤ maxLen) (hbytes : (n + m) * bytes ≤ 140737488355328) (hbase : base ≤ w.heap.size)
    (h : ∀ v' w', w'.ownsRow base e size v' (n + m) (xs ++ news) → w.grownBy w' v.ownBlock → (v'.ownBlock = v.ownBlock ∨ v'.ownBlock = some w.heap.size) → wpList P ops Q rest (a.put o.dst v') w') : wpList P ops Q (o :: rest) a w := by
  refine wpList_plain hgd fun K hK => ?_
  obtain ⟨v', w', hrun, h2, h3, h4⟩ := run_append_any (P := P) w base t o.type e i z size bytes ht hi hz hsize hby hzs hsz v n xs hown B A m c news hr h1 h63 hbytes hbase
  unfold Oper.wp execOp
  simp only [ho, resolve, invoke, builtin, Sem.run_bind, Sem.run_pure, Result.andThen_ok, List.map_toArray, List.map_cons, List.map_nil, hs, hx, hrun]
  exact hK _ _ (h v' w' h2 h3 h4)
end

/-- A memory, what is wanted of its log, what was got of it. -/
structure Three (w0 : World) (g : Nat) (X : List UInt8) (ag : Int) (LG : List Acc) (vw : Value) (WL : List Acc) (vg : Value) (GL : List Acc) (w : World) : Prop where
  mem : ∃ gb lv, Mem w0.heap.size g gb lv X ag LG w ∧ (∀ k, vw.ownBlock = some k → lv.ownBlock ≠ some k) ∧ (∀ k, vg.ownBlock = some k → lv.ownBlock ≠ some k)
  want : w.ownsRow w0.heap.size 44 4 vw WL.length (logCells WL)
  got : w.ownsRow w0.heap.size 44 4 vg GL.length (logCells GL)
  apart : ∀ k, vw.ownBlock = some k → vg.ownBlock ≠ some k
  below : Below w0.heap.size w0 w
section
variable {w0 w w' : World} {g : Nat} {X : List UInt8} {ag : Int} {LG WL GL : List Acc} {vw vg : Value}
/-- a list of accesses is left alone by what touches a memory -/
theorem own_apart {B gb : Nat} {lv v : Value} {n : Nat} {ys : List Value} (hm : Mem B g gb lv X ag LG w) (ho : w.ownsRow B 44 4 v n ys) (hn : ∀ k, v.ownBlock = some k → lv.ownBlock ≠ some k) (hT : Touch g gb lv w w') : w'.ownsRow B 44 4 v n ys :=
  own_same ho (fun k hk => hT.block k (ho.lt k hk).2 (fun e => own_ne ho hm.blk (by decide) (e ▸ hk)) (fun e => own_ne ho hm.row (by decide) (e ▸ hk)) (hn k hk))
theorem Three.noted {gb : Nat} {lv : Value} {X' : List UInt8} {ag' : Int} {LG' : List Acc} (h : Three w0 g X ag LG vw WL vg GL w) (hm : Mem w0.heap.size g gb lv X ag LG w) (n1 : ∀ k, vw.ownBlock = some k → lv.ownBlock ≠ some k) (n2 : ∀ k, vg.ownBlock = some k → lv.ownBlock ≠ some k)
    (hN : Noted w0.heap.size g gb lv X' ag' LG' w w') : Three w0 g X' ag' LG' vw WL vg GL w' := by
  obtain ⟨lv', hM, hT, hL⟩ := hN
  refine ⟨⟨gb, lv', hM, fun k hk e => ?_, fun k hk e => ?_⟩, own_apart hm h.want n1 hT, own_apart hm h.got n2 hT, h.apart, h.below.trans (Touch.under hm hT)⟩
  · rcases hL k e with e' | e'
    · exact n1 k hk e'
    · have := (h.want.lt k hk).2; omega
  · rcases hL k e with e' | e'
    · exact n2 k hk e'
    · have := (h.got.lt k hk).2; omega
theorem three_as (h : Three w0 g X ag LG vw WL vg GL w) (n : Int) : Calls Try.prog 20 #[.pointer (some ⟨g, 0, none⟩), .int .i64 n] w fun e w' => e = .returned (.tuple #[]) ∧ Three w0 g X n LG vw WL vg GL w' := by
  obtain ⟨gb, lv, hm, n1, n2⟩ := h.mem
  exact (as_m hm n).mono fun e w' ⟨he, h1, h2⟩ => ⟨he, h.noted hm n1 n2 ⟨lv, h1, h2, fun k hk => .inl hk⟩⟩
theorem three_may (h : Three w0 g X ag LG vw WL vg GL w) (a n : Int) (h0 : 0 ≤ n) (h1 : 0 ≤ a) (h2 : a + n ≤ X.length) :
    Calls Try.prog 21 #[.pointer (some ⟨g, 0, none⟩), .int .i64 a, .int .i64 n] w fun e w' => e = .returned (.bool true) ∧ w = w' := by
  obtain ⟨gb, lv, hm, n1, n2⟩ := h.mem
  exact may_yes hm a n h0 h1 h2
theorem three_image (h : Three w0 g X ag LG vw WL vg GL w) : Calls Try.prog 13 #[.pointer (some ⟨g, 0, none⟩)] w fun e w' => e = .returned (.string ⟨X.toArray⟩) ∧ w = w' := by
  obtain ⟨gb, lv, hm, n1, n2⟩ := h.mem
  exact image_m hm
theorem three_read (h : Three w0 g X ag LG vw WL vg GL w) (a n : Nat) (hl : LG.length < 4096) (hn : a + n ≤ X.length) :
    Calls Try.prog 16 #[.pointer (some ⟨g, 0, none⟩), .int .i64 a, .int .i64 n] w fun e w' =>
      e = .returned (.tuple #[.string ⟨((X.drop a).take n).toArray⟩, .int .i64 0]) ∧ Three w0 g X ag (note LG ⟨ag, a, n, false⟩) vw WL vg GL w' := by
  obtain ⟨gb, lv, hm, n1, n2⟩ := h.mem
  exact (read_ok hm a n hl hn).mono fun e w' ⟨he, hN⟩ => ⟨he, h.noted hm n1 n2 hN⟩
theorem three_store (h : Three w0 g X ag LG vw WL vg GL w) (a n v : Nat) (hl : LG.length < 4096) (hw : Word n) (hv : v < 256 ^ n) (hn : a + n ≤ X.length) :
    Calls Try.prog 18 #[.pointer (some ⟨g, 0, none⟩), .int .i64 a, .int .i64 n, .int .u64 v] w fun e w' =>
      e = .returned (.int .i64 0) ∧ Three w0 g (over X a (numS v n)) ag (note LG ⟨ag, a, n, true⟩) vw WL vg GL w' := by
  obtain ⟨gb, lv, hm, n1, n2⟩ := h.mem
  exact (store_ok hm a n v hl hw hv hn).mono fun e w' ⟨he, hN⟩ => ⟨he, h.noted hm n1 n2 hN⟩
/-- what Log tells, beside what was wanted and got -/
def Tells3 (w0 : World) (g : Nat) (X : List UInt8) (ag : Int) (LG : List Acc) (vw : Value) (WL : List Acc) (vg : Value) (GL : List Acc) (e : Ending) (w' : World) : Prop :=
  ∃ A cap, e = .returned (.slice A LG.length cap) ∧ Reads w' w'.heap.size 4 A LG.length (logCells LG) ∧ Three w0 g X ag [] vw WL vg GL w'
theorem three_log (h : Three w0 g X ag LG vw WL vg GL w) (hl : LG.length ≤ 4096) : Calls Try.prog 15 #[.pointer (some ⟨g, 0, none⟩)] w (Tells3 w0 g X ag LG vw WL vg GL) := by
  obtain ⟨gb, lv, hm, n1, n2⟩ := h.mem
  refine (log_m hm hl).mono fun e w' ⟨A, cap, he, ho, hM, hT⟩ => ⟨A, cap, he, Reads.of_own ho, ?_⟩
  exact h.noted hm n1 n2 ⟨_, hM, hT, fun k hk => by simp [Value.ownBlock] at hk⟩
/-- what was wanted, with one more -/
theorem Three.more {w1 w2 : World} {gl cap : Nat} {x : Acc} (h : Three w0 g X ag LG vw WL vg GL w) (hb : Below w.heap.size w w1)
    (hown : w2.ownsRow w0.heap.size 44 4 (.slice (some ⟨gl, 0, none⟩) (WL.length + 1) cap) (WL.length + 1) (logCells WL ++ accCells x)) (hgrow : w1.grownBy w2 vw.ownBlock) (hat : vw.ownBlock = some gl ∨ gl = w1.heap.size) :
    Three w0 g X ag LG (.slice (some ⟨gl, 0, none⟩) (WL.length + 1) cap) (WL ++ [x]) vg GL w2 := by
  obtain ⟨gb, lv, hm, n1, n2⟩ := h.mem
  have hz := hb.size
  have o : ∀ k, k < w.heap.size → vw.ownBlock ≠ some k → w2.heap[k]? = w.heap[k]? := fun k hk hne => (hgrow.block k (by omega) (fun e => hne e.symm)).trans (hb.block k hk)
  have hlt := hm.blk.lt
  have hltb := hm.row.lt
  have new : ∀ k, (Value.slice (some ⟨gl, 0, none⟩) (WL.length + 1) cap).ownBlock = some k → vw.ownBlock = some k ∨ w.heap.size ≤ k := fun k hk => by
    have : gl = k := by simpa [Value.ownBlock] using hk
    subst this
    rcases hat with e | e
    · exact .inl e
    · right; omega
  refine ⟨⟨gb, lv, hm.kept (o g hlt (own_ne h.want hm.blk (by decide))) (o gb hltb (own_ne h.want hm.row (by decide))) (fun k hk => o k (hm.lge hk).2 (fun e => n1 k e hk)), fun k hk e => ?_, n2⟩, ?_, own_same h.got (fun k hk => o k (h.got.lt k hk).2 (fun e => h.apart k e hk)), fun k hk e => ?_, ?_⟩
  · rcases new k hk with e' | e'
    · exact n1 k e' e
    · have := (hm.lge e).2; omega
  · rw [logCells_append, List.length_append]
    simpa [logCells] using hown
  · rcases new k hk with e' | e'
    · exact h.apart k e' e
    · have := (h.got.lt k e).2; omega
  · have hb0 := h.below
    have hB : w0.heap.size ≤ w.heap.size := hb0.size
    refine hb0.trans ⟨hgrow.os.trans hb.os, hgrow.tape.trans hb.tape, hgrow.output.trans hb.output, by have := hgrow.size; omega, fun k hk => o k (by omega) (fun e => by have := (h.want.lt k e).1; omega)⟩
/-- what was got, with more -/
theorem Three.gets {w2 : World} {v' : Value} {L : List Acc} (h : Three w0 g X ag LG vw WL vg GL w)
    (hown : w2.ownsRow w0.heap.size 44 4 v' (GL.length + L.length) (logCells GL ++ logCells L)) (hgrow : w.grownBy w2 vg.ownBlock) (hat : v'.ownBlock = vg.ownBlock ∨ v'.ownBlock = some w.heap.size) :
    Three w0 g X ag LG vw WL v' (GL ++ L) w2 := by
  obtain ⟨gb, lv, hm, n1, n2⟩ := h.mem
  have o : ∀ k, k < w.heap.size → vg.ownBlock ≠ some k → w2.heap[k]? = w.heap[k]? := fun k hk hne => hgrow.block k hk (fun e => hne e.symm)
  have hlt := hm.blk.lt
  have hltb := hm.row.lt
  have new : ∀ k, v'.ownBlock = some k → vg.ownBlock = some k ∨ w.heap.size ≤ k := fun k hk => by
    rcases hat with e | e
    · exact .inl (e ▸ hk)
    · rw [e] at hk
      right
      have : w.heap.size = k := by simpa using hk
      omega
  refine ⟨⟨gb, lv, hm.kept (o g hlt (own_ne h.got hm.blk (by decide))) (o gb hltb (own_ne h.got hm.row (by decide))) (fun k hk => o k (hm.lge hk).2 (fun e => n2 k e hk)), n1, fun k hk e => ?_⟩, own_same h.want (fun k hk => o k (h.want.lt k hk).2 (h.apart k hk)), ?_, fun k hk e => ?_, ?_⟩
  · rcases new k hk with e' | e'
    · exact n2 k e' e
    · have := (hm.lge e).2; omega
  · rw [logCells_append, List.length_append]
    exact hown
  · rcases new k e with e' | e'
    · exact h.apart k hk e'
    · have := (h.want.lt k hk).2; omega
  · have hb0 := h.below
    have hB : w0.heap.size ≤ w.heap.size := hb0.size
    exact hb0.trans ⟨hgrow.os, hgrow.tape, hgrow.output, hgrow.size, fun k hk => o k (by omega) (fun e => by have := (h.got.lt k e).1; omega)⟩
theorem Three.start {w1 : World} {cs : Array Value} (h : M w0 g X ag [] w) (hw1 : w1 = (w.alloc (.cells cs 44)).alloc (.cells cs 44)) (hcs : cs = #[]) :
    Three w0 g X ag [] (.slice (some ⟨w.heap.size, 0, none⟩) 0 0) [] (.slice (some ⟨w.heap.size + 1, 0, none⟩) 0 0) [] w1 := by
  obtain ⟨gb, lv, hm, hb⟩ := h
  subst hw1 hcs
  have hb1 : Below w.heap.size w ((w.alloc (.cells #[] 44)).alloc (.cells #[] 44)) := bla (bla (Below.refl _ _) _) _
  have hz := hm.base
  have own : ∀ (W : World) (j : Nat), w0.heap.size ≤ j → W.heap[j]? = some (.cells #[] 44 (0, 0)) → W.ownsRow w0.heap.size 44 4 (.slice (some ⟨j, 0, none⟩) 0 0) 0 [] := fun W j hj hh =>
    ⟨by simp, .inr ⟨j, 0, #[], rfl, hj, hh, Nat.le_refl _, by unfold maxLen; omega, by simp, by simp⟩⟩
  refine ⟨⟨gb, lv, hm.below hb1 (Nat.le_refl _), fun k hk e => ?_, fun k hk e => ?_⟩, ?_, ?_, fun k hk e => ?_, hb.trans (hb1.mono hz)⟩
  · have : w.heap.size = k := by simpa [Value.ownBlock] using hk
    have := (hm.lge e).2; omega
  · have : w.heap.size + 1 = k := by simpa [Value.ownBlock] using hk
    have := (hm.lge e).2; omega
  · exact own _ w.heap.size hz (heap_alloc2_old w _ _)
  · exact own _ (w.heap.size + 1) (by omega) (heap_alloc2_new w _ _)
  · have h1 : w.heap.size = k := by simpa [Value.ownBlock] using hk
    have h2 : w.heap.size + 1 = k := by simpa [Value.ownBlock] using e
    omega
end
end Go.Proofs.Ytjcnjigmeopllaa
