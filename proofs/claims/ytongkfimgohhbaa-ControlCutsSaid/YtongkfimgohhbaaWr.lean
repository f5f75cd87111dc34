/-
  Loads and stores of settings, filters and rules as wholes; no condition.
-/
import Derived.Test.YtongkfimgohhbaaCh
import Derived.Deep.MidRow
namespace Go.Proofs.Ytongkfimgohhbaa
open Go.RowKit

@[reducible] def Cg.rss (K : Cg) : Array Value := #[.int .i64 K.kinds, .slice K.T K.tb.length K.tc, .string K.key, .int .i64 K.df]
theorem Try.size29 : (Try.prog.info? 29).map (·.size) = some 18 := by kernel_rfl
theorem Try.size25 : (Try.prog.info? 25).map (·.size) = some 11 := by kernel_rfl
theorem Try.size27 : (Try.prog.info? 27).map (·.size) = some 4 := by kernel_rfl
section
variable {w : World} {g : Nat} {K G : Cg} {ops : Array Oper} {rest : List Oper} {o : Oper} {a : Act} {Q : Exit → Act → World → Prop}
theorem range_of_blk {t : TypeId} {cs : Array Value} (h : Blk w g t cs) (off : Nat) (xs : List Value) (hx : ∀ j v, xs[j]? = some v → cs[off + j]? = some v) : w.rangeAt g off xs :=
  fun j v hv => by rw [h.cell (off + j)]; exact hx j v hv
theorem there_of_blk {t : TypeId} {cs : Array Value} (h : Blk w g t cs) (off n : Nat) (hn : off + n ≤ cs.size) : w.there g off n :=
  fun j hj => ⟨by rw [h.cell (off + j), Array.getElem?_eq_getElem (by omega)]; rfl, h.frozen _⟩
theorem cfg_fil (K : Cg) : ∀ j v, K.f.cells.toList[j]? = some v → K.cells[0 + j]? = some v := by
  intro j v hv
  rw [Nat.zero_add]
  have hj : j < 11 := (List.getElem?_eq_some_iff.1 hv).1
  match j, hj with
  | 0, _ | 1, _ | 2, _ | 3, _ | 4, _ | 5, _ | 6, _ | 7, _ | 8, _ | 9, _ | 10, _ => exact hv
theorem cfg_rss (K : Cg) : ∀ j v, K.rss.toList[j]? = some v → K.cells[14 + j]? = some v := by
  intro j v hv
  have hj : j < 4 := (List.getElem?_eq_some_iff.1 hv).1
  match j, hj with
  | 0, _ | 1, _ | 2, _ | 3, _ => exact hv
/-- settings out of a variable -/
theorem lw_cfg (h : Blk w g 29 K.cells) (hgd : o.guard = none) (x : Operand) (ho : o.op = .load 29 x) (hx : a.eval x = .pointer (some ⟨g, 0, none⟩))
    (hn : wpList Try.prog ops Q rest (a.put o.dst (.agg K.cells)) w) : wpList Try.prog ops Q (o :: rest) a w :=
  wpList_load_row hgd _ x ho g hx _ _ (0, 0) _ h Try.underlying29 rfl Try.size29 hn
theorem lw_fil0 {F : Fl} (h : Blk w g 25 F.cells) (hgd : o.guard = none) (x : Operand) (ho : o.op = .load 25 x) (hx : a.eval x = .pointer (some ⟨g, 0, none⟩))
    (hn : wpList Try.prog ops Q rest (a.put o.dst (.agg F.cells)) w) : wpList Try.prog ops Q (o :: rest) a w :=
  wpList_load_row hgd _ x ho g hx _ _ (0, 0) _ h Try.underlying25 rfl Try.size25 hn
/-- the filter out of settings in a variable -/
theorem lw_fil (h : Blk w g 29 K.cells) (hgd : o.guard = none) (x : Operand) (ho : o.op = .load 25 x) (hx : a.eval x = .pointer (some ⟨g, 0, none⟩))
    (hn : wpList Try.prog ops Q rest (a.put o.dst (.agg K.f.cells)) w) : wpList Try.prog ops Q (o :: rest) a w :=
  wpList_load_mid hgd _ x ho g 0 hx K.f.cells.toList _ (range_of_blk h 0 _ (cfg_fil K)) Try.underlying25 rfl Try.size25 hn
/-- the rules out of settings in a variable -/
theorem lw_rss (h : Blk w g 29 K.cells) (hgd : o.guard = none) (x : Operand) (ho : o.op = .load 27 x) (hx : a.eval x = .pointer (some ⟨g, 14, none⟩))
    (hn : wpList Try.prog ops Q rest (a.put o.dst (.agg K.rss)) w) : wpList Try.prog ops Q (o :: rest) a w :=
  wpList_load_mid hgd _ x ho g 14 hx K.rss.toList _ (range_of_blk h 14 _ (cfg_rss K)) Try.underlying27 rfl Try.size27 hn
/-- settings into a variable -/
theorem sw_cfg {t : TypeId} {cs : Array Value} (h : Blk w g t cs) (hs : cs.size = 18) (hgd : o.guard = none) (x y : Operand) (ho : o.op = .store 29 x y) (hx : a.eval x = .pointer (some ⟨g, 0, none⟩)) (hy : a.eval y = .agg G.cells)
    (hn : wpList Try.prog ops Q rest (a.put o.dst undef) (w.setCells g 0 G.cells.toList)) : wpList Try.prog ops Q (o :: rest) a w :=
  wpList_store_mid hgd _ x y ho g 0 G.cells hx hy (there_of_blk h 0 _ (by rw [hs]; exact Nat.le_refl 18)) Try.size29 (by simp [Cg.cells, Value.oneCell']) hn
theorem sw_fil {F : Fl} {t : TypeId} {cs : Array Value} (h : Blk w g t cs) (hs : 11 ≤ cs.size) (hgd : o.guard = none) (x y : Operand) (ho : o.op = .store 25 x y) (hx : a.eval x = .pointer (some ⟨g, 0, none⟩)) (hy : a.eval y = .agg F.cells)
    (hn : wpList Try.prog ops Q rest (a.put o.dst undef) (w.setCells g 0 F.cells.toList)) : wpList Try.prog ops Q (o :: rest) a w :=
  wpList_store_mid hgd _ x y ho g 0 F.cells hx hy (there_of_blk h 0 _ (by show 0 + 11 ≤ _; omega)) Try.size25 (by simp [Fl.cells, Value.oneCell']) hn
theorem sw_rss {t : TypeId} {cs : Array Value} (h : Blk w g t cs) (hs : 18 ≤ cs.size) (hgd : o.guard = none) (x y : Operand) (ho : o.op = .store 27 x y) (hx : a.eval x = .pointer (some ⟨g, 14, none⟩)) (hy : a.eval y = .agg G.rss)
    (hn : wpList Try.prog ops Q rest (a.put o.dst undef) (w.setCells g 14 G.rss.toList)) : wpList Try.prog ops Q (o :: rest) a w :=
  wpList_store_mid hgd _ x y ho g 14 G.rss hx hy (there_of_blk h 14 _ (by show 14 + 4 ≤ _; omega)) Try.size27 (by simp [Cg.rss, Value.oneCell']) hn
theorem Blk.all {t : TypeId} {cs : Array Value} (h : Blk w g t cs) (hs : cs.size = 18) : Blk (w.setCells g 0 G.cells.toList) g t G.cells := by
  have := h.store 0 G.cells.toList (by rw [hs]; exact Nat.le_refl 18)
  have e : (cs.toList.take 0 ++ G.cells.toList ++ cs.toList.drop (0 + G.cells.toList.length)).toArray = G.cells := by
    have hl : cs.toList.length = 18 := by simpa using hs
    rw [List.take_zero, List.nil_append, show 0 + G.cells.toList.length = 18 from rfl, List.drop_eq_nil_of_le (by omega), List.append_nil]
  rw [e] at this
  exact this
end
theorem own_puts {w : World} {base g : Nat} {e : TypeId} {size n : Nat} {v : Value} {xs : List Value} (h : w.ownsRow base e size v n xs) (hg : g < base) (o : Nat) (us : List Value) : (w.setCells g o us).ownsRow base e size v n xs :=
  own_same h (fun k hk => heap_puts _ _ _ _ (by have := (h.lt k hk).1; omega))
theorem below_puts {w w' : World} {B g : Nat} (hb : Below B w w') (hB : B ≤ w'.heap.size) (hg : B ≤ g) (o : Nat) (us : List Value) : Below B w (w'.setCells g o us) :=
  hb.trans ((Tch.store (gs := [g]) us o _ (Tch.refl _ _) (.inl (by simp))).below hB (by simpa using hg))
theorem Blk.new2 (w : World) (o : Obj) (t : TypeId) (cs : Array Value) : Blk ((w.alloc o).alloc (.cells cs t)) (w.heap.size + 1) t cs := by
  have := Blk.new (w.alloc o) t cs
  simpa using this
theorem Blk.far {w : World} {g g' : Nat} {t : TypeId} {cs : Array Value} (h : Blk w g' t cs) (hne : g' ≠ g) (o : Nat) (us : List Value) : Blk (w.setCells g o us) g' t cs := h.same (heap_puts _ _ _ _ hne)
end Go.Proofs.Ytongkfimgohhbaa
