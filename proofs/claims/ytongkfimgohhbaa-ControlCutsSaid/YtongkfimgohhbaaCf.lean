/-
  Settings as values; a variable that holds settings, beside a reader; no condition.
-/
import Derived.Test.YtongkfimgohhbaaSd
import Derived.Test.YtongkfimgohhbaaRq
import Derived.Test.YtongkfimgohhbaaAr
namespace Go.Proofs.Ytongkfimgohhbaa
open Go.RowKit

/-- Settings, with the places of their lists. -/
structure Cg where
  f : Fl
  pairs : Int
  mx : Int
  on : Bool
  kinds : Int
  T : Option Addr
  tb : List Int
  tc : Nat
  key : ByteArray
  df : Int
@[reducible] def Cg.cells (K : Cg) : Array Value := #[.string K.f.mac, .bool K.f.pr, .bool K.f.au, .bool K.f.am, .bool K.f.nu, .bool K.f.nm, .bool K.f.na, .slice K.f.U K.f.us.length K.f.uc, .slice K.f.M K.f.ms.length K.f.mc, .bool K.f.vo, .slice K.f.V K.f.vs.length K.f.vc, .int .i64 K.pairs, .int .i64 K.mx, .bool K.on, .int .i64 K.kinds, .slice K.T K.tb.length K.tc, .string K.key, .int .i64 K.df]
@[reducible] def Cg.val (K : Cg) : Value := .agg K.cells
structure Cg.At (K : Cg) (B : Nat) (w : World) : Prop where
  f : K.f.At B w
  t : Rd B K.T (K.tb.map intV) w
structure Cg.Few (K : Cg) : Prop where
  f : K.f.Few
  t : K.tb.length ≤ 400
structure Cg.Fit (K : Cg) : Prop where
  f : K.f.Fit
  t : K.tb.length ≤ K.tc
  nt : K.T = none → K.tc = 0
structure Cg.Own (K : Cg) (base : Nat) (w : World) : Prop where
  f : K.f.Own base w
  t : OwnI base K.T K.tc K.tb w
/-- the same settings, their lists elsewhere -/
structure Cg.Same (K G : Cg) : Prop where
  f : K.f.Same G.f
  pairs : G.pairs = K.pairs
  mx : G.mx = K.mx
  on : G.on = K.on
  kinds : G.kinds = K.kinds
  tb : G.tb = K.tb
  key : G.key = K.key
  df : G.df = K.df
theorem Fl.Same.refl (F : Fl) : F.Same F := ⟨rfl, rfl, rfl, rfl, rfl, rfl, rfl, rfl, rfl, rfl, rfl⟩
theorem Fl.Same.trans {F G H : Fl} (h : F.Same G) (g : G.Same H) : F.Same H :=
  ⟨g.mac.trans h.mac, g.pr.trans h.pr, g.au.trans h.au, g.am.trans h.am, g.nu.trans h.nu, g.nm.trans h.nm, g.na.trans h.na, g.us.trans h.us, g.ms.trans h.ms, g.vo.trans h.vo, g.vs.trans h.vs⟩
theorem Fl.Same.symm {F G : Fl} (h : F.Same G) : G.Same F :=
  ⟨h.mac.symm, h.pr.symm, h.au.symm, h.am.symm, h.nu.symm, h.nm.symm, h.na.symm, h.us.symm, h.ms.symm, h.vo.symm, h.vs.symm⟩
theorem Cg.Same.refl (K : Cg) : K.Same K := ⟨Fl.Same.refl _, rfl, rfl, rfl, rfl, rfl, rfl, rfl⟩
theorem Cg.Same.trans {F G H : Cg} (h : F.Same G) (g : G.Same H) : F.Same H :=
  ⟨h.f.trans g.f, g.pairs.trans h.pairs, g.mx.trans h.mx, g.on.trans h.on, g.kinds.trans h.kinds, g.tb.trans h.tb, g.key.trans h.key, g.df.trans h.df⟩
theorem Cg.Same.symm {F G : Cg} (h : F.Same G) : G.Same F :=
  ⟨h.f.symm, h.pairs.symm, h.mx.symm, h.on.symm, h.kinds.symm, h.tb.symm, h.key.symm, h.df.symm⟩
/-- a filter's lists do not stand in this block -/
structure Fl.Ofs (F : Fl) (g : Nat) : Prop where
  u : offL F.U (F.us.map strV) g
  m : offL F.M (F.ms.map strV) g
  v : offL F.V (F.vs.map intV) g
structure Cg.Ofs (K : Cg) (g : Nat) : Prop where
  f : K.f.Ofs g
  t : offL K.T (K.tb.map intV) g
theorem offL_rd {B g : Nat} {A : Option Addr} {xs : List Value} {w : World} (h : Rd B A xs w) (hg : B ≤ g) : offL A xs g := by
  intro b off hn hA
  obtain ⟨b', off', hA', hb, _⟩ := h hn
  rw [hA] at hA'
  injection hA' with hA'
  injection hA' with h1 _ _
  omega
theorem offL_own {w : World} {base n c g : Nat} {e : TypeId} {A : Option Addr} {xs ys : List Value} (h : w.ownsRow base e 1 (.slice A n c) n xs) (hg : g < base) : offL A ys g := by
  intro b off _ hA
  subst hA
  have := own_ge h b rfl
  omega
theorem Fl.At.ofs {F : Fl} {B g : Nat} {w : World} (h : F.At B w) (hg : B ≤ g) : F.Ofs g := ⟨offL_rd h.u hg, offL_rd h.m hg, offL_rd h.v hg⟩
theorem Cg.At.ofs {K : Cg} {B g : Nat} {w : World} (h : K.At B w) (hg : B ≤ g) : K.Ofs g := ⟨h.f.ofs hg, offL_rd h.t hg⟩
theorem Fl.Own.ofs {F : Fl} {base g : Nat} {w : World} (h : F.Own base w) (hg : g < base) : F.Ofs g := ⟨offL_own h.u hg, offL_own h.m hg, offL_own h.v hg⟩
theorem Cg.Own.ofs {K : Cg} {base g : Nat} {w : World} (h : K.Own base w) (hg : g < base) : K.Ofs g := ⟨h.f.ofs hg, offL_own h.t hg⟩
theorem Cg.At.far {K : Cg} {B B' : Nat} {w w' : World} (h : K.At B w) (hB : B ≤ B') (hq : Below B' w w') : K.At B w' := ⟨h.f.far hB hq, h.t.far hB hq⟩
theorem Cg.At.more {K : Cg} {B B' : Nat} {w : World} (h : K.At B w) (hB : B ≤ B') : K.At B' w := ⟨h.f.more hB, h.t.more hB⟩
theorem Fl.At.tch {F : Fl} {gs : List Nat} {B : Nat} {w w' : World} (h : F.At B w) (ht : Tch gs w w') (hB : B ≤ w.heap.size) (ho : ∀ g ∈ gs, F.Ofs g) : F.At B w' :=
  ⟨ht.rd h.u hB fun g hg => (ho g hg).u, ht.rd h.m hB fun g hg => (ho g hg).m, ht.rd h.v hB fun g hg => (ho g hg).v⟩
theorem Cg.At.tch {K : Cg} {gs : List Nat} {B : Nat} {w w' : World} (h : K.At B w) (ht : Tch gs w w') (hB : B ≤ w.heap.size) (ho : ∀ g ∈ gs, K.Ofs g) : K.At B w' :=
  ⟨h.f.tch ht hB fun g hg => (ho g hg).f, ht.rd h.t hB fun g hg => (ho g hg).t⟩
theorem Cg.Own.at {K : Cg} {base B : Nat} {w : World} (h : K.Own base w) (hB : w.heap.size ≤ B) : K.At B w := ⟨h.f.at hB, Rd.own h.t hB⟩
theorem Cg.Own.less {K : Cg} {base base' : Nat} {w : World} (h : K.Own base w) (hb : base' ≤ base) : K.Own base' w := ⟨h.f.less hb, own_less h.t hb⟩
theorem Cg.Own.next {K : Cg} {base : Nat} {w w' : World} (h : K.Own base w) (hb : Below w.heap.size w w') : K.Own base w' := ⟨h.f.next hb, own_next h.t hb⟩
/-- A variable g that holds settings, beside a reader h. -/
structure Cv (g h : Nat) (K : Cg) (w : World) : Prop where
  blk : Blk w g 29 K.cells
  ne : g ≠ h
  lt : h < w.heap.size
  at' : K.At w.heap.size w
  og : K.Ofs g
  oh : K.Ofs h
section
variable {g h : Nat} {K G : Cg} {w w' : World}
theorem Cv.next (c : Cv g h K w) (ht : Tch [h] w w') : Cv g h K w' :=
  ⟨ht.blk c.blk (by simpa using c.ne), c.ne, Nat.lt_of_lt_of_le c.lt ht.size, (c.at'.tch ht (Nat.le_refl _) (by simpa using c.oh)).more ht.size, c.og, c.oh⟩
theorem Cv.below (c : Cv g h K w) (hb : Below w.heap.size w w') : Cv g h K w' := c.next (Tch.of_below hb _)
/-- a field that is no list is put -/
theorem Cv.put (c : Cv g h K w) {i : Nat} {u : Value} (hc : K.cells.setIfInBounds i u = G.cells) (ha : G.At w.heap.size w) (og : G.Ofs g) (oh : G.Ofs h) : Cv g h G (w.setCell ⟨g, i, none⟩ u) := by
  have hs : (w.setCell ⟨g, i, none⟩ u).heap.size = w.heap.size := setCell_size _ _ _
  refine ⟨?_, c.ne, by rw [hs]; exact c.lt, ?_, og, oh⟩
  · have := c.blk.put i u
    rw [hc] at this
    exact this
  · rw [hs]
    exact ha.tch ((Tch.refl [g] w).setCell (.inl (by simp)) i u) (Nat.le_refl _) (by simpa using og)
end
theorem Fl.At.ext {F G : Fl} {B : Nat} {w : World} (h : F.At B w) (e : F.U = G.U ∧ F.us = G.us ∧ F.M = G.M ∧ F.ms = G.ms ∧ F.V = G.V ∧ F.vs = G.vs) : G.At B w := by
  obtain ⟨e1, e2, e3, e4, e5, e6⟩ := e
  exact ⟨by rw [← e1, ← e2]; exact h.u, by rw [← e3, ← e4]; exact h.m, by rw [← e5, ← e6]; exact h.v⟩
end Go.Proofs.Ytongkfimgohhbaa
