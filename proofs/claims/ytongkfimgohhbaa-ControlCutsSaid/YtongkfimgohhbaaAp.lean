/-
  control.Apply, for every string and all settings: the settings then, and the answer; no condition.
-/
import Derived.Test.YtongkfimgohhbaaCl
import Derived.Test.YtongkfimgohhbaaCn
import Derived.Test.YtongkfimgohhbaaCk
namespace Go.Proofs.Ytongkfimgohhbaa
open Go.RowKit

/-- what a command makes of settings, if it is one -/
def appC (K : Cg) (s : ByteArray) : Option Cg :=
  if ((chgC K s false).1 && (!(chgC K s false).2.2.2 && (chgC K s false).2.2.1.size == 0) && filB (chgC K s false).2.1.f) = true then some (chgC K s false).2.1 else none
def resC (K : Cg) (s : ByteArray) : Cg := (appC K s).getD K
def ackC (K : Cg) (s : ByteArray) : Int := if (appC K s).isSome = true then 0 else 1
/-- lists that are short enough for one more -/
structure Cg.Room (K : Cg) : Prop where
  u : K.f.us.length ≤ 400
  m : K.f.ms.length ≤ 400
  v : K.f.vs.length ≤ 399
  t : K.tb.length ≤ 400
theorem Cg.Room.few {K : Cg} (h : K.Room) : K.Few := ⟨⟨h.u, h.m, by have := h.v; omega⟩, h.t⟩
theorem numV_length (K : Cg) (n v : Nat) : (numV K n v).length ≤ K.f.vs.length + 1 := by
  unfold numV
  split
  · exact addL_length _ _
  · exact Nat.le_trans (delL_length _ _) (by omega)
theorem flag_lists (F : Fl) (n : Nat) (b : Bool) : (F.flag n b).us = F.us ∧ (F.flag n b).ms = F.ms ∧ (F.flag n b).vs = F.vs ∧ (F.flag n b).mac = F.mac := by
  unfold Fl.flag
  split <;> exact ⟨rfl, rfl, rfl, rfl⟩
theorem chg_few (K : Cg) (s : ByteArray) (b : Bool) (h : K.Room) : (chgC K s b).2.1.Few := by
  unfold chgC
  split
  · obtain ⟨h1, h2, h3, _⟩ := flag_lists K.f (cN s) (nm (c2 s) 1 == 1)
    refine ⟨⟨?_, ?_, ?_⟩, h.t⟩
    · show (K.f.flag _ _).us.length ≤ 400; rw [h1]; exact h.u
    · show (K.f.flag _ _).ms.length ≤ 400; rw [h2]; exact h.m
    · show (K.f.flag _ _).vs.length ≤ 400; rw [h3]; exact h.few.f.v
  split
  · split
    · refine ⟨⟨?_, ?_, h.few.f.v⟩, h.t⟩
      · have h1 := mcL_length (c2 s)
        dsimp only
        omega
      · have h1 := mcL_length (mcS (c2 s))
        dsimp only
        omega
    split
    · exact ⟨⟨h.u, h.m, h.few.f.v⟩, h.t⟩
    · exact h.few
  split
  · refine ⟨⟨h.u, h.m, ?_⟩, h.t⟩
    have h1 := numV_length K (cN s) (nm (c2 s) 2)
    have h2 := h.v
    dsimp only
    omega
  split
  · split
    · exact ⟨h.few.f, h.t⟩
    split
    · refine ⟨h.few.f, ?_⟩
      have h1 : (rlT (c2 s)).length ≤ 128 := quL_length (rl3 (c2 s)) (rlN (c2 s))
      dsimp only
      omega
    · exact h.few
  · exact h.few
theorem Cg.Same.few {K G : Cg} (e : K.Same G) (h : K.Few) : G.Few := ⟨⟨by rw [e.f.us]; exact h.f.u, by rw [e.f.ms]; exact h.f.m, by rw [e.f.vs]; exact h.f.v⟩, by rw [e.tb]; exact h.t⟩
theorem Fl.Same.fil {F G : Fl} (e : F.Same G) : filB G = filB F := by unfold filB; rw [e.mac, e.us, e.ms, e.vs]
theorem results_ct {fn : Func} {p q : Tmp} {ty : TypeId} (h : fn.results = #[.cell p ty, .tmp q]) (tmps : Array Value) (w : World) (g : Nat) (t : TypeId) (cs : Array Value) (d : TypeDesc) {v : Value}
    (hp : tmps.getD p undef = .pointer (some ⟨g, 0, none⟩)) (hq : tmps.getD q undef = v) (hg : Blk w g t cs)
    (hu : Try.prog.underlying ty = some d) (hd : d.isRow = true) (hi : (Try.prog.info? ty).map (·.size) = some cs.size) :
    (results fn tmps).run Try.prog w = .ok (.tuple #[.agg cs, v]) w := by
  have hp' : tmps[p]?.getD undef = .pointer (some ⟨g, 0, none⟩) := by simpa using hp
  have hq' : tmps[q]?.getD undef = v := by simpa using hq
  have hr := run_loadVar_mid w g 0 ty cs.toList d (range_of_blk hg 0 _ (fun j v hv => by simpa using hv)) hu hd (by simpa using hi)
  simp only [Array.toArray_toList] at hr
  simp [results, h, hp', hq', asAddr, hr]
/-- the filter out of settings in a variable, behind a guard that says yes -/
theorem lwg_fil {w : World} {g : Nat} {K : Cg} {ops : Array Oper} {rest : List Oper} {o : Oper} {a : Act} {Q : Exit → Act → World → Prop} (h : Blk w g 29 K.cells) (hw : Region.wanted o (yielded ops a.tmps) = true) (x : Operand) (ho : o.op = .load 25 x) (hx : a.eval x = .pointer (some ⟨g, 0, none⟩))
    (hn : wpList Try.prog ops Q rest (a.put o.dst (.agg K.f.cells)) w) : wpList Try.prog ops Q (o :: rest) a w :=
  wpList_step fun k hk => by
    rw [if_pos hw]
    exact wp_load_mid _ x ho g 0 hx K.f.cells.toList _ (range_of_blk h 0 _ (cfg_fil K)) Try.underlying25 rfl Try.size25 (hk _ _ hn)
/-- what Apply hands back -/
def AppP (X : Cg) (n : Int) (w : World) (e : Ending) (w' : World) : Prop :=
  ∃ G : Cg, X.Same G ∧ e = .returned (.tuple #[.agg G.cells, .int .i64 n]) ∧ G.Own w.heap.size w' ∧ Below w.heap.size w w'
theorem AppP.mk {X G : Cg} {n : Int} {w w1 w2 w' : World} {g : Nat} (hS : X.Same G) (hO : G.Own w1.heap.size w2) (hb : Below w.heap.size w w1) (hq : Below w1.heap.size w1 w2) (hg : w.heap.size ≤ g) (hlt : g < w1.heap.size) (hw : w' = w2.setCells g 0 G.cells.toList) :
    AppP X n w (.returned (.tuple #[.agg G.cells, .int .i64 n])) w' := by
  subst hw
  refine ⟨G, hS, rfl, ?_, below_puts (bt2 hb hq) (bt2 hb hq).size hg 0 _⟩
  have h1 := hb.size
  exact ⟨⟨own_less (own_puts hO.f.u hlt 0 _) h1, own_less (own_puts hO.f.m hlt 0 _) h1, own_less (own_puts hO.f.v hlt 0 _) h1⟩, own_less (own_puts hO.t hlt 0 _) h1⟩
theorem app_start (K : Cg) (s : ByteArray) (w : World) (hK : K.At w.heap.size w) :
    Blk (((((w.alloc (.cells K.cells 29)).alloc (.cells #[.string ⟨#[]⟩, .bool false, .bool false, .bool false, .bool false, .bool false, .bool false, .slice none 0 0, .slice none 0 0, .bool false, .slice none 0 0, .int .i64 0, .int .i64 0, .bool false, .int .i64 0, .slice none 0 0, .string ⟨#[]⟩, .int .i64 0] 29)).alloc (.cells #[.string s, .bool false] 64)).alloc (.cells #[.string ⟨#[]⟩, .bool false, .bool false, .bool false, .bool false, .bool false, .bool false, .slice none 0 0, .slice none 0 0, .bool false, .slice none 0 0, .int .i64 0, .int .i64 0, .bool false, .int .i64 0, .slice none 0 0, .string ⟨#[]⟩, .int .i64 0] 29)).setCells (w.heap.size + 1 + 1 + 1) 0 K.cells.toList) w.heap.size 29 K.cells ∧ Blk (((((w.alloc (.cells K.cells 29)).alloc (.cells #[.string ⟨#[]⟩, .bool false, .bool false, .bool false, .bool false, .bool false, .bool false, .slice none 0 0, .slice none 0 0, .bool false, .slice none 0 0, .int .i64 0, .int .i64 0, .bool false, .int .i64 0, .slice none 0 0, .string ⟨#[]⟩, .int .i64 0] 29)).alloc (.cells #[.string s, .bool false] 64)).alloc (.cells #[.string ⟨#[]⟩, .bool false, .bool false, .bool false, .bool false, .bool false, .bool false, .slice none 0 0, .slice none 0 0, .bool false, .slice none 0 0, .int .i64 0, .int .i64 0, .bool false, .int .i64 0, .slice none 0 0, .string ⟨#[]⟩, .int .i64 0] 29)).setCells (w.heap.size + 1 + 1 + 1) 0 K.cells.toList) (w.heap.size + 1) 29 zeroC ∧ Blk (((((w.alloc (.cells K.cells 29)).alloc (.cells #[.string ⟨#[]⟩, .bool false, .bool false, .bool false, .bool false, .bool false, .bool false, .slice none 0 0, .slice none 0 0, .bool false, .slice none 0 0, .int .i64 0, .int .i64 0, .bool false, .int .i64 0, .slice none 0 0, .string ⟨#[]⟩, .int .i64 0] 29)).alloc (.cells #[.string s, .bool false] 64)).alloc (.cells #[.string ⟨#[]⟩, .bool false, .bool false, .bool false, .bool false, .bool false, .bool false, .slice none 0 0, .slice none 0 0, .bool false, .slice none 0 0, .int .i64 0, .int .i64 0, .bool false, .int .i64 0, .slice none 0 0, .string ⟨#[]⟩, .int .i64 0] 29)).setCells (w.heap.size + 1 + 1 + 1) 0 K.cells.toList) (w.heap.size + 1 + 1) 64 (rdC s false) ∧
    Cv (w.heap.size + 1 + 1 + 1) (w.heap.size + 1 + 1) K (((((w.alloc (.cells K.cells 29)).alloc (.cells #[.string ⟨#[]⟩, .bool false, .bool false, .bool false, .bool false, .bool false, .bool false, .slice none 0 0, .slice none 0 0, .bool false, .slice none 0 0, .int .i64 0, .int .i64 0, .bool false, .int .i64 0, .slice none 0 0, .string ⟨#[]⟩, .int .i64 0] 29)).alloc (.cells #[.string s, .bool false] 64)).alloc (.cells #[.string ⟨#[]⟩, .bool false, .bool false, .bool false, .bool false, .bool false, .bool false, .slice none 0 0, .slice none 0 0, .bool false, .slice none 0 0, .int .i64 0, .int .i64 0, .bool false, .int .i64 0, .slice none 0 0, .string ⟨#[]⟩, .int .i64 0] 29)).setCells (w.heap.size + 1 + 1 + 1) 0 K.cells.toList) ∧ Below w.heap.size w (((((w.alloc (.cells K.cells 29)).alloc (.cells #[.string ⟨#[]⟩, .bool false, .bool false, .bool false, .bool false, .bool false, .bool false, .slice none 0 0, .slice none 0 0, .bool false, .slice none 0 0, .int .i64 0, .int .i64 0, .bool false, .int .i64 0, .slice none 0 0, .string ⟨#[]⟩, .int .i64 0] 29)).alloc (.cells #[.string s, .bool false] 64)).alloc (.cells #[.string ⟨#[]⟩, .bool false, .bool false, .bool false, .bool false, .bool false, .bool false, .slice none 0 0, .slice none 0 0, .bool false, .slice none 0 0, .int .i64 0, .int .i64 0, .bool false, .int .i64 0, .slice none 0 0, .string ⟨#[]⟩, .int .i64 0] 29)).setCells (w.heap.size + 1 + 1 + 1) 0 K.cells.toList) := by
  have k1 : Blk ((((w.alloc (.cells K.cells 29)).alloc (.cells #[.string ⟨#[]⟩, .bool false, .bool false, .bool false, .bool false, .bool false, .bool false, .slice none 0 0, .slice none 0 0, .bool false, .slice none 0 0, .int .i64 0, .int .i64 0, .bool false, .int .i64 0, .slice none 0 0, .string ⟨#[]⟩, .int .i64 0] 29)).alloc (.cells #[.string s, .bool false] 64)).alloc (.cells #[.string ⟨#[]⟩, .bool false, .bool false, .bool false, .bool false, .bool false, .bool false, .slice none 0 0, .slice none 0 0, .bool false, .slice none 0 0, .int .i64 0, .int .i64 0, .bool false, .int .i64 0, .slice none 0 0, .string ⟨#[]⟩, .int .i64 0] 29)) w.heap.size 29 K.cells := (((Blk.new w 29 _).alloc _).alloc _).alloc _
  have k2 : Blk ((((w.alloc (.cells K.cells 29)).alloc (.cells #[.string ⟨#[]⟩, .bool false, .bool false, .bool false, .bool false, .bool false, .bool false, .slice none 0 0, .slice none 0 0, .bool false, .slice none 0 0, .int .i64 0, .int .i64 0, .bool false, .int .i64 0, .slice none 0 0, .string ⟨#[]⟩, .int .i64 0] 29)).alloc (.cells #[.string s, .bool false] 64)).alloc (.cells #[.string ⟨#[]⟩, .bool false, .bool false, .bool false, .bool false, .bool false, .bool false, .slice none 0 0, .slice none 0 0, .bool false, .slice none 0 0, .int .i64 0, .int .i64 0, .bool false, .int .i64 0, .slice none 0 0, .string ⟨#[]⟩, .int .i64 0] 29)) (w.heap.size + 1) 29 zeroC := ((Blk.new2 w _ _ _).alloc _).alloc _
  have k3 : Blk ((((w.alloc (.cells K.cells 29)).alloc (.cells #[.string ⟨#[]⟩, .bool false, .bool false, .bool false, .bool false, .bool false, .bool false, .slice none 0 0, .slice none 0 0, .bool false, .slice none 0 0, .int .i64 0, .int .i64 0, .bool false, .int .i64 0, .slice none 0 0, .string ⟨#[]⟩, .int .i64 0] 29)).alloc (.cells #[.string s, .bool false] 64)).alloc (.cells #[.string ⟨#[]⟩, .bool false, .bool false, .bool false, .bool false, .bool false, .bool false, .slice none 0 0, .slice none 0 0, .bool false, .slice none 0 0, .int .i64 0, .int .i64 0, .bool false, .int .i64 0, .slice none 0 0, .string ⟨#[]⟩, .int .i64 0] 29)) (w.heap.size + 1 + 1) 64 (rdC s false) := by
    have := Blk.new2 (w.alloc (.cells K.cells 29)) (.cells zeroC 29) 64 (rdC s false)
    rw [show (w.alloc (.cells K.cells 29)).heap.size = w.heap.size + 1 by simp] at this
    exact this.alloc _
  have k4 : Blk ((((w.alloc (.cells K.cells 29)).alloc (.cells #[.string ⟨#[]⟩, .bool false, .bool false, .bool false, .bool false, .bool false, .bool false, .slice none 0 0, .slice none 0 0, .bool false, .slice none 0 0, .int .i64 0, .int .i64 0, .bool false, .int .i64 0, .slice none 0 0, .string ⟨#[]⟩, .int .i64 0] 29)).alloc (.cells #[.string s, .bool false] 64)).alloc (.cells #[.string ⟨#[]⟩, .bool false, .bool false, .bool false, .bool false, .bool false, .bool false, .slice none 0 0, .slice none 0 0, .bool false, .slice none 0 0, .int .i64 0, .int .i64 0, .bool false, .int .i64 0, .slice none 0 0, .string ⟨#[]⟩, .int .i64 0] 29)) (w.heap.size + 1 + 1 + 1) 29 zeroC := by
    have := Blk.new2 ((w.alloc (.cells K.cells 29)).alloc (.cells zeroC 29)) (.cells (rdC s false) 64) 29 zeroC
    rw [show ((w.alloc (.cells K.cells 29)).alloc (.cells zeroC 29)).heap.size = w.heap.size + 1 + 1 by simp] at this
    exact this
  have hb : Below w.heap.size w ((((w.alloc (.cells K.cells 29)).alloc (.cells #[.string ⟨#[]⟩, .bool false, .bool false, .bool false, .bool false, .bool false, .bool false, .slice none 0 0, .slice none 0 0, .bool false, .slice none 0 0, .int .i64 0, .int .i64 0, .bool false, .int .i64 0, .slice none 0 0, .string ⟨#[]⟩, .int .i64 0] 29)).alloc (.cells #[.string s, .bool false] 64)).alloc (.cells #[.string ⟨#[]⟩, .bool false, .bool false, .bool false, .bool false, .bool false, .bool false, .slice none 0 0, .slice none 0 0, .bool false, .slice none 0 0, .int .i64 0, .int .i64 0, .bool false, .int .i64 0, .slice none 0 0, .string ⟨#[]⟩, .int .i64 0] 29)) := ba (ba (ba (ba (b0 w) _) _) _) _
  generalize ((((w.alloc (.cells K.cells 29)).alloc (.cells #[.string ⟨#[]⟩, .bool false, .bool false, .bool false, .bool false, .bool false, .bool false, .slice none 0 0, .slice none 0 0, .bool false, .slice none 0 0, .int .i64 0, .int .i64 0, .bool false, .int .i64 0, .slice none 0 0, .string ⟨#[]⟩, .int .i64 0] 29)).alloc (.cells #[.string s, .bool false] 64)).alloc (.cells #[.string ⟨#[]⟩, .bool false, .bool false, .bool false, .bool false, .bool false, .bool false, .slice none 0 0, .slice none 0 0, .bool false, .slice none 0 0, .int .i64 0, .int .i64 0, .bool false, .int .i64 0, .slice none 0 0, .string ⟨#[]⟩, .int .i64 0] 29)) = W at *
  have hl := k3.lt
  have hb2 := below_puts hb hb.size (show w.heap.size ≤ w.heap.size + 1 + 1 + 1 by omega) 0 K.cells.toList
  have hs := setCells_size (g := w.heap.size + 1 + 1 + 1) K.cells.toList 0 W
  refine ⟨k1.far (by omega) 0 _, k2.far (by omega) 0 _, k3.far (by omega) 0 _, ⟨k4.all rfl, by omega, by rw [hs]; exact hl, (hK.far (Nat.le_refl _) hb2).more (by rw [hs]; exact hb.size), hK.ofs (by omega), hK.ofs (by omega)⟩, hb2⟩
set_option maxHeartbeats 4000000 in
theorem apply_walk (K : Cg) (s : ByteArray) (w : World) (hK : K.At w.heap.size w) (P : Ending → World → Prop) (ok en fi : Bool)
    (A1 : ∀ W, Cv (w.heap.size + 1 + 1 + 1) (w.heap.size + 1 + 1) K W → Blk W (w.heap.size + 1 + 1) 64 (rdC s false) → Calls Try.prog 35 #[.pointer (some ⟨w.heap.size + 1 + 1 + 1, 0, none⟩), .pointer (some ⟨w.heap.size + 1 + 1, 0, none⟩)] W fun e w' => e = .returned (.bool ok) ∧ Tch [w.heap.size + 1 + 1 + 1, w.heap.size + 1 + 1] W w' ∧
      (ok = true → (∀ V, V = w' → Calls Try.prog 36 #[.pointer (some ⟨w.heap.size + 1 + 1, 0, none⟩)] V fun e w' => e = .returned (.bool en) ∧ V = w') ∧
        (en = true → ∃ G : Cg, Blk w' (w.heap.size + 1 + 1 + 1) 29 G.cells ∧ (∀ V, V = w' → Calls Try.prog 23 #[.agg G.f.cells] V fun e w' => e = .returned (.int .i64 (if fi = true then 0 else 160)) ∧ Below V.heap.size V w') ∧
          (fi = true → ∀ V, Below w.heap.size w V → Below w'.heap.size w' V → Calls Try.prog 37 #[.agg G.cells] V fun e w'' => ∃ J : Cg, e = .returned (.agg J.cells) ∧ Below V.heap.size V w'' ∧ P (.returned (.tuple #[.agg J.cells, .int .i64 0])) (w''.setCells (w.heap.size + 1) 0 J.cells.toList)))))
    (A2 : (ok && en && fi) = false → ∀ V, Below w.heap.size w V → w.heap.size + 1 < V.heap.size → Calls Try.prog 37 #[.agg K.cells] V fun e w'' => ∃ J : Cg, e = .returned (.agg J.cells) ∧ Below V.heap.size V w'' ∧ P (.returned (.tuple #[.agg J.cells, .int .i64 1])) (w''.setCells (w.heap.size + 1) 0 J.cells.toList)) :
    Calls Try.prog 11 #[.agg K.cells, .string s] w P := by
  obtain ⟨W1, hW1⟩ : ∃ W1, (((((w.alloc (.cells K.cells 29)).alloc (.cells #[.string ⟨#[]⟩, .bool false, .bool false, .bool false, .bool false, .bool false, .bool false, .slice none 0 0, .slice none 0 0, .bool false, .slice none 0 0, .int .i64 0, .int .i64 0, .bool false, .int .i64 0, .slice none 0 0, .string ⟨#[]⟩, .int .i64 0] 29)).alloc (.cells #[.string s, .bool false] 64)).alloc (.cells #[.string ⟨#[]⟩, .bool false, .bool false, .bool false, .bool false, .bool false, .bool false, .slice none 0 0, .slice none 0 0, .bool false, .slice none 0 0, .int .i64 0, .int .i64 0, .bool false, .int .i64 0, .slice none 0 0, .string ⟨#[]⟩, .int .i64 0] 29)).setCells (w.heap.size + 1 + 1 + 1) 0 K.cells.toList) = W1 := ⟨_, rfl⟩
  have hst := app_start K s w hK
  have kn : Blk ((((w.alloc (.cells K.cells 29)).alloc (.cells #[.string ⟨#[]⟩, .bool false, .bool false, .bool false, .bool false, .bool false, .bool false, .slice none 0 0, .slice none 0 0, .bool false, .slice none 0 0, .int .i64 0, .int .i64 0, .bool false, .int .i64 0, .slice none 0 0, .string ⟨#[]⟩, .int .i64 0] 29)).alloc (.cells #[.string s, .bool false] 64)).alloc (.cells #[.string ⟨#[]⟩, .bool false, .bool false, .bool false, .bool false, .bool false, .bool false, .slice none 0 0, .slice none 0 0, .bool false, .slice none 0 0, .int .i64 0, .int .i64 0, .bool false, .int .i64 0, .slice none 0 0, .string ⟨#[]⟩, .int .i64 0] 29)) w.heap.size 29 K.cells := (((Blk.new w 29 _).alloc _).alloc _).alloc _
  have kn2 : Blk ((w.alloc (.cells K.cells 29)).alloc (.cells zeroC 29)) w.heap.size 29 K.cells := (Blk.new w 29 _).alloc _
  have kz : Blk ((((w.alloc (.cells K.cells 29)).alloc (.cells #[.string ⟨#[]⟩, .bool false, .bool false, .bool false, .bool false, .bool false, .bool false, .slice none 0 0, .slice none 0 0, .bool false, .slice none 0 0, .int .i64 0, .int .i64 0, .bool false, .int .i64 0, .slice none 0 0, .string ⟨#[]⟩, .int .i64 0] 29)).alloc (.cells #[.string s, .bool false] 64)).alloc (.cells #[.string ⟨#[]⟩, .bool false, .bool false, .bool false, .bool false, .bool false, .bool false, .slice none 0 0, .slice none 0 0, .bool false, .slice none 0 0, .int .i64 0, .int .i64 0, .bool false, .int .i64 0, .slice none 0 0, .string ⟨#[]⟩, .int .i64 0] 29)) (w.heap.size + 1 + 1 + 1) 29 zeroC := by
    have := Blk.new2 ((w.alloc (.cells K.cells 29)).alloc (.cells zeroC 29)) (.cells (rdC s false) 64) 29 zeroC
    rw [show ((w.alloc (.cells K.cells 29)).alloc (.cells zeroC 29)).heap.size = w.heap.size + 1 + 1 by simp] at this
    exact this
  rw [hW1] at hst
  obtain ⟨k1, k2, k3, cv, hb⟩ := hst
  have HW := Lib.hid hW1
  have KN := Lib.hid kn2
  have KZ := Lib.hid kz
  have K1 := Lib.hid k1
  have K2 := Lib.hid k2
  have HB := Lib.hid hb
  have H1 := Lib.hid (A1 W1 cv k3)
  have H2 := Lib.hid A2
  clear A1 A2 hW1 kn kn2 kz k1 k2 k3 cv hb hK
  go_enter Try.func11, Try.ntmps11
  go_wp2_with (first
    | ((with_reducible refine lw_cfg KN.out ?_ (.tmp 2) ?_ ?_ ?_); (· rfl); (· rfl); (· rfl); simp only [Act.put, List.setIfInBounds_toArray, List.set_cons_succ, List.set_cons_zero])
    | ((with_reducible refine sw_cfg (G := K) KZ.out ?_ ?_ (.tmp 6) (.tmp 8) ?_ ?_ ?_ ?_); (· rfl); (· rfl); (· rfl); (· rfl); (· rfl); simp only [Act.put]; rw [HW.out]))
  refine (H1.out).mono ?_
  rintro e w2 ⟨rfl, ht, hok⟩
  have hg : Below w.heap.size w w2 := HB.out.trans (ht.below HB.out.size (by intro k hk; simp only [List.mem_cons, List.not_mem_nil, or_false] at hk; omega))
  have k1 : Blk w2 w.heap.size 29 K.cells := ht.blk K1.out (by intro hm; simp only [List.mem_cons, List.not_mem_nil, or_false] at hm; omega)
  have k2 : Blk w2 (w.heap.size + 1) 29 zeroC := ht.blk K2.out (by intro hm; simp only [List.mem_cons, List.not_mem_nil, or_false] at hm; omega)
  have hl2 := k2.lt
  replace HB := Lib.hid hg
  replace K1 := Lib.hid k1
  replace K2 := Lib.hid k2
  have HOK := Lib.hid hok
  clear ht hg k1 k2 hok H1 KN KZ HW
  dsimp only
  cases ok
  · have HC := Lib.hid (H2.out rfl w2 HB.out hl2)
    clear H2 HOK hl2
    go_wp2_with (first
      | fail
      | ((with_reducible refine lw_cfg K1.out ?_ (.tmp 2) ?_ ?_ ?_); (· rfl); (· rfl); (· rfl); simp only [Act.put, List.setIfInBounds_toArray, List.set_cons_succ, List.set_cons_zero]))
    refine (HC.out).mono ?_
    rintro e w5 ⟨J, rfl, hq, hp⟩
    have k5 := (K2.out).next hq
    have hz : Blk (w5.setCells (w.heap.size + 1) 0 J.cells.toList) (w.heap.size + 1) 29 J.cells := k5.all rfl
    have K5 := Lib.hid k5
    have HZ := Lib.hid hz
    have HP := Lib.hid hp
    clear hq hp k5 hz
    dsimp only
    go_wp2_with (first
      | ((with_reducible refine sw_cfg (G := J) K5.out ?_ ?_ (.tmp 4) (.tmp 27) ?_ ?_ ?_ ?_); (· rfl); (· rfl); (· rfl); (· rfl); (· rfl); simp only [Act.put])
      | ((with_reducible refine bodyPost_ret (v := .tuple #[.agg J.cells, .int .i64 1]) ?_ ?_ ?_); (· exact results_ct rfl _ _ _ _ _ _ rfl rfl HZ.out Try.underlying29 rfl Try.size29); (· rfl); (· exact HP.out)))
  · have hok := HOK.out rfl
    obtain ⟨hE, hG⟩ := hok
    have HE := Lib.hid (hE w2 rfl)
    have HG := Lib.hid hG
    clear hE hG HOK
    cases en
    · have HC := Lib.hid (H2.out rfl w2 HB.out hl2)
      clear H2 hl2 HG
      go_wp2_with (first
        | (go_at_call 36; (refine (HE.out).mono ?_); rintro e w3 ⟨rfl, rfl⟩)
        | ((with_reducible refine lw_cfg K1.out ?_ (.tmp 2) ?_ ?_ ?_); (· rfl); (· rfl); (· rfl); simp only [Act.put, List.setIfInBounds_toArray, List.set_cons_succ, List.set_cons_zero]))
      refine (HC.out).mono ?_
      rintro e w5 ⟨J, rfl, hq, hp⟩
      have k5 := (K2.out).next hq
      have hz : Blk (w5.setCells (w.heap.size + 1) 0 J.cells.toList) (w.heap.size + 1) 29 J.cells := k5.all rfl
      have K5 := Lib.hid k5
      have HZ := Lib.hid hz
      have HP := Lib.hid hp
      clear hq hp k5 hz
      dsimp only
      go_wp2_with (first
        | ((with_reducible refine sw_cfg (G := J) K5.out ?_ ?_ (.tmp 4) (.tmp 27) ?_ ?_ ?_ ?_); (· rfl); (· rfl); (· rfl); (· rfl); (· rfl); simp only [Act.put])
        | ((with_reducible refine bodyPost_ret (v := .tuple #[.agg J.cells, .int .i64 1]) ?_ ?_ ?_); (· exact results_ct rfl _ _ _ _ _ _ rfl rfl HZ.out Try.underlying29 rfl Try.size29); (· rfl); (· exact HP.out)))
    · obtain ⟨G, k3, hck, hcl⟩ := HG.out rfl
      have K3 := Lib.hid k3
      have HK := Lib.hid (hck w2 rfl)
      have HL := Lib.hid hcl
      clear k3 hck hcl HG
      cases fi
      · have HC := Lib.hid (H2.out rfl)
        clear H2
        go_wp2_with (first
          | (go_at_call 36; (refine (HE.out).mono ?_); rintro e w3 ⟨rfl, rfl⟩)
          | ((with_reducible refine lwg_fil K3.out ?_ (.tmp 21) ?_ ?_ ?_); (· rfl); (· rfl); (· rfl); simp only [Act.put, List.setIfInBounds_toArray, List.set_cons_succ, List.set_cons_zero]))
        refine (HK.out).mono ?_
        rintro e w4 ⟨rfl, hq⟩
        have k1 := K1.out.next hq
        have k2 := K2.out.next hq
        have hb4 := bt2 HB.out hq
        have hl4 := k2.lt
        have HD := Lib.hid (HC.out w4 hb4 hl4)
        replace K1 := Lib.hid k1
        replace K2 := Lib.hid k2
        clear hq k1 k2 hb4 hl4 HC HK K3 HE HL
        dsimp only
        go_wp2_with (first
          | fail
          | ((with_reducible refine lw_cfg K1.out ?_ (.tmp 2) ?_ ?_ ?_); (· rfl); (· rfl); (· rfl); simp only [Act.put, List.setIfInBounds_toArray, List.set_cons_succ, List.set_cons_zero]))
        refine (HD.out).mono ?_
        rintro e w5 ⟨J, rfl, hq, hp⟩
        have k5 := (K2.out).next hq
        have hz : Blk (w5.setCells (w.heap.size + 1) 0 J.cells.toList) (w.heap.size + 1) 29 J.cells := k5.all rfl
        have K5 := Lib.hid k5
        have HZ := Lib.hid hz
        have HP := Lib.hid hp
        clear hq hp k5 hz
        dsimp only
        go_wp2_with (first
          | ((with_reducible refine sw_cfg (G := J) K5.out ?_ ?_ (.tmp 4) (.tmp 27) ?_ ?_ ?_ ?_); (· rfl); (· rfl); (· rfl); (· rfl); (· rfl); simp only [Act.put])
          | ((with_reducible refine bodyPost_ret (v := .tuple #[.agg J.cells, .int .i64 1]) ?_ ?_ ?_); (· exact results_ct rfl _ _ _ _ _ _ rfl rfl HZ.out Try.underlying29 rfl Try.size29); (· rfl); (· exact HP.out)))
      · have HC := Lib.hid (HL.out rfl)
        clear H2 HL
        go_wp2_with (first
          | (go_at_call 36; (refine (HE.out).mono ?_); rintro e w3 ⟨rfl, rfl⟩)
          | ((with_reducible refine lwg_fil K3.out ?_ (.tmp 21) ?_ ?_ ?_); (· rfl); (· rfl); (· rfl); simp only [Act.put, List.setIfInBounds_toArray, List.set_cons_succ, List.set_cons_zero]))
        refine (HK.out).mono ?_
        rintro e w4 ⟨rfl, hq⟩
        have k1 := K3.out.next hq
        have k2 := K2.out.next hq
        have HD := Lib.hid (HC.out w4 (bt2 HB.out hq) hq)
        replace K1 := Lib.hid k1
        replace K2 := Lib.hid k2
        clear hq k1 k2 HC HK K3 HE
        dsimp only
        go_wp2_with (first
          | fail
          | ((with_reducible refine lw_cfg K1.out ?_ (.tmp 6) ?_ ?_ ?_); (· rfl); (· rfl); (· rfl); simp only [Act.put, List.setIfInBounds_toArray, List.set_cons_succ, List.set_cons_zero]))
        refine (HD.out).mono ?_
        rintro e w5 ⟨J, rfl, hq, hp⟩
        have k5 := (K2.out).next hq
        have hz : Blk (w5.setCells (w.heap.size + 1) 0 J.cells.toList) (w.heap.size + 1) 29 J.cells := k5.all rfl
        have K5 := Lib.hid k5
        have HZ := Lib.hid hz
        have HP := Lib.hid hp
        clear hq hp k5 hz
        dsimp only
        go_wp2_with (first
          | ((with_reducible refine sw_cfg (G := J) K5.out ?_ ?_ (.tmp 4) (.tmp 29) ?_ ?_ ?_ ?_); (· rfl); (· rfl); (· rfl); (· rfl); (· rfl); simp only [Act.put])
          | ((with_reducible refine bodyPost_ret (v := .tuple #[.agg J.cells, .int .i64 0]) ?_ ?_ ?_); (· exact results_ct rfl _ _ _ _ _ _ rfl rfl HZ.out Try.underlying29 rfl Try.size29); (· rfl); (· exact HP.out)))
theorem appC_of (K : Cg) (s : ByteArray) : ((chgC K s false).1 && (!(chgC K s false).2.2.2 && (chgC K s false).2.2.1.size == 0) && filB (chgC K s false).2.1.f) = true → appC K s = some (chgC K s false).2.1 := fun h => by unfold appC; rw [if_pos h]
theorem appC_no (K : Cg) (s : ByteArray) : ((chgC K s false).1 && (!(chgC K s false).2.2.2 && (chgC K s false).2.2.1.size == 0) && filB (chgC K s false).2.1.f) = false → appC K s = none := fun h => by unfold appC; rw [if_neg (by rw [h]; simp)]
theorem capply_any (K : Cg) (s : ByteArray) (w : World) (hs : s.size ≤ maxLen) (hK : K.At w.heap.size w) (hl : K.Room) :
    Calls Try.prog 11 #[.agg K.cells, .string s] w (AppP (resC K s) (ackC K s) w) := by
  obtain ⟨ok, hok⟩ : ∃ b, (chgC K s false).1 = b := ⟨_, rfl⟩
  obtain ⟨en, hen⟩ : ∃ b, (!(chgC K s false).2.2.2 && (chgC K s false).2.2.1.size == 0) = b := ⟨_, rfl⟩
  obtain ⟨fi, hfi⟩ : ∃ b, filB (chgC K s false).2.1.f = b := ⟨_, rfl⟩
  refine apply_walk K s w hK _ ok en fi ?_ ?_
  · intro W hcv hk
    refine (change_any _ _ K s false W hs hcv hk hl.few.f).mono ?_
    rintro e w' ⟨he, ht, hp⟩
    rw [hok] at he hp
    refine ⟨he, ht, fun h1 => ?_⟩
    obtain ⟨K', hS, hpc⟩ := hp h1
    have hf : K'.Few := hS.few (chg_few K s false hl)
    refine ⟨fun V hV => ?_, fun h2 => ⟨K', hpc.cv.blk, fun V hV => ?_, fun h3 V hbV hV => ?_⟩⟩
    · subst hV
      refine (ended_any _ _ _ _ hpc.rd).mono fun e w1 hh => ?_
      rw [← hen]
      exact hh
    · subst hV
      refine (check_any K'.f V.heap.size V hpc.cv.at'.f (Nat.le_refl _) hf.f).mono fun e w1 hh => ?_
      have e1 : chkV K'.f = if fi = true then 0 else 160 := by
        unfold chkV
        rw [Fl.Same.fil hS.f, hfi]
      rw [← e1]
      exact hh
    · have hA : appC K s = some (chgC K s false).2.1 := appC_of K s (by rw [hok, hen, hfi, h1, h2, h3]; rfl)
      refine (cclone_any K' w'.heap.size V (hpc.cv.at'.far (Nat.le_refl _) hV) hV.size hf).mono ?_
      rintro e w1 ⟨G, hG, rfl, hO, hq⟩
      have hwW : w.heap.size + 1 < W.heap.size := by have := hcv.lt; omega
      have hww : Below w.heap.size w V → AppP (resC K s) (ackC K s) w (.returned (.tuple #[.agg G.cells, .int .i64 0])) (w1.setCells (w.heap.size + 1) 0 G.cells.toList) := by
        intro hb
        have e1 : resC K s = (chgC K s false).2.1 := by unfold resC; rw [hA]; rfl
        have e2 : ackC K s = 0 := by unfold ackC; rw [hA]; rfl
        rw [e1, e2]
        exact AppP.mk (hS.trans hG) hO hb hq (by omega) (by have := hV.size; have := ht.size; omega) rfl
      exact ⟨G, rfl, hq, hww hbV⟩
  · intro hbad V hb hlt
    have hA : appC K s = none := appC_no K s (by rw [hok, hen, hfi]; exact hbad)
    refine (cclone_any K w.heap.size V (hK.far (Nat.le_refl _) hb) hb.size hl.few).mono ?_
    rintro e w1 ⟨G, hG, rfl, hO, hq⟩
    have e1 : resC K s = K := by unfold resC; rw [hA]; rfl
    have e2 : ackC K s = 1 := by unfold ackC; rw [hA]; rfl
    rw [e1, e2]
    exact ⟨G, rfl, hq, AppP.mk hG hO hb hq (by omega) hlt rfl⟩
end Go.Proofs.Ytongkfimgohhbaa
