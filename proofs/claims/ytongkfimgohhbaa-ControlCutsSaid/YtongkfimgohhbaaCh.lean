/-
  What control's commands make of settings that stand in a variable: setFlag, setMacs, setVlans, setPairs; no condition.
-/
import Derived.Test.YtongkfimgohhbaaCf
namespace Go.Proofs.Ytongkfimgohhbaa
open Go.RowKit

def Fl.flag (F : Fl) (n : Nat) (b : Bool) : Fl := match n with
  | 0 => { F with pr := b }
  | 1 => { F with am := b }
  | 2 => { F with au := b }
  | 3 => { F with nm := b }
  | 4 => { F with nu := b }
  | 5 => { F with na := b }
  | _ => F
theorem Fl.flag_many (F : Fl) (n : Nat) (b : Bool) (h : 5 < n) : F.flag n b = F := by
  match n, h with
  | n + 6, _ => rfl
def FlagP (g h : Nat) (K : Cg) (n v : Nat) (w : World) (e : Ending) (w' : World) : Prop :=
  e = .returned (.bool (decide (n ≤ 5) && decide (v ≤ 1))) ∧ Cv g h { K with f := K.f.flag n (v == 1) } w' ∧ Tch [g] w w'
theorem flag_0 (g h : Nat) (K : Cg) (v : Nat) (w : World) (hc : Cv g h K w) : Calls Try.prog 52 #[.pointer (some ⟨g, 0, none⟩), .int .i64 0, .int .i64 v] w (FlagP g h K 0 v w) := by
  have c1 := hc.blk.cell 1
  simp only [List.getElem?_toArray, List.getElem?_cons_zero, List.getElem?_cons_succ] at c1
  have f1 := hc.blk.frozen 1
  have hcv : Cv g h { K with f := K.f.flag 0 (v == 1) } (w.setCell ⟨g, 1, none⟩ (.bool (v == 1))) :=
    hc.put (G := { K with f := K.f.flag 0 (v == 1) }) rfl ⟨hc.at'.f.ext ⟨rfl, rfl, rfl, rfl, rfl, rfl⟩, hc.at'.t⟩ ⟨⟨hc.og.f.u, hc.og.f.m, hc.og.f.v⟩, hc.og.t⟩ ⟨⟨hc.oh.f.u, hc.oh.f.m, hc.oh.f.v⟩, hc.oh.t⟩
  have ht := (Tch.refl [g] w).setCell (g := g) (.inl (by simp)) 1 (.bool (v == 1))
  have hr : FlagP g h K 0 v w (.returned (.bool (v == 0 || v == 1))) (w.setCell ⟨g, 1, none⟩ (.bool (v == 1))) := by
    refine ⟨?_, hcv, ht⟩
    congr 2
    rw [Bool.eq_iff_iff]
    simp
    omega
  have e1 : ((v : Int) == 1) = (v == 1) := by rw [Bool.eq_iff_iff]; simp; omega
  have e0 : ((v : Int) == 0) = (v == 0) := by rw [Bool.eq_iff_iff]; simp
  generalize (v == 1) = y at *
  generalize (v == 0) = z at *
  have HR := Lib.hid hr
  clear hc hcv ht hr
  cases z
  · go_enter Try.func52, Try.ntmps52
    go_wp2
    go_ret
    exact HR.out
  · go_enter Try.func52, Try.ntmps52
    go_wp2
    go_ret
    exact HR.out
theorem flag_1 (g h : Nat) (K : Cg) (v : Nat) (w : World) (hc : Cv g h K w) : Calls Try.prog 52 #[.pointer (some ⟨g, 0, none⟩), .int .i64 1, .int .i64 v] w (FlagP g h K 1 v w) := by
  have c3 := hc.blk.cell 3
  simp only [List.getElem?_toArray, List.getElem?_cons_zero, List.getElem?_cons_succ] at c3
  have f3 := hc.blk.frozen 3
  have hcv : Cv g h { K with f := K.f.flag 1 (v == 1) } (w.setCell ⟨g, 3, none⟩ (.bool (v == 1))) :=
    hc.put (G := { K with f := K.f.flag 1 (v == 1) }) rfl ⟨hc.at'.f.ext ⟨rfl, rfl, rfl, rfl, rfl, rfl⟩, hc.at'.t⟩ ⟨⟨hc.og.f.u, hc.og.f.m, hc.og.f.v⟩, hc.og.t⟩ ⟨⟨hc.oh.f.u, hc.oh.f.m, hc.oh.f.v⟩, hc.oh.t⟩
  have ht := (Tch.refl [g] w).setCell (g := g) (.inl (by simp)) 3 (.bool (v == 1))
  have hr : FlagP g h K 1 v w (.returned (.bool (v == 0 || v == 1))) (w.setCell ⟨g, 3, none⟩ (.bool (v == 1))) := by
    refine ⟨?_, hcv, ht⟩
    congr 2
    rw [Bool.eq_iff_iff]
    simp
    omega
  have e1 : ((v : Int) == 1) = (v == 1) := by rw [Bool.eq_iff_iff]; simp; omega
  have e0 : ((v : Int) == 0) = (v == 0) := by rw [Bool.eq_iff_iff]; simp
  generalize (v == 1) = y at *
  generalize (v == 0) = z at *
  have HR := Lib.hid hr
  clear hc hcv ht hr
  cases z
  · go_enter Try.func52, Try.ntmps52
    go_wp2
    go_ret
    exact HR.out
  · go_enter Try.func52, Try.ntmps52
    go_wp2
    go_ret
    exact HR.out
theorem flag_2 (g h : Nat) (K : Cg) (v : Nat) (w : World) (hc : Cv g h K w) : Calls Try.prog 52 #[.pointer (some ⟨g, 0, none⟩), .int .i64 2, .int .i64 v] w (FlagP g h K 2 v w) := by
  have c2 := hc.blk.cell 2
  simp only [List.getElem?_toArray, List.getElem?_cons_zero, List.getElem?_cons_succ] at c2
  have f2 := hc.blk.frozen 2
  have hcv : Cv g h { K with f := K.f.flag 2 (v == 1) } (w.setCell ⟨g, 2, none⟩ (.bool (v == 1))) :=
    hc.put (G := { K with f := K.f.flag 2 (v == 1) }) rfl ⟨hc.at'.f.ext ⟨rfl, rfl, rfl, rfl, rfl, rfl⟩, hc.at'.t⟩ ⟨⟨hc.og.f.u, hc.og.f.m, hc.og.f.v⟩, hc.og.t⟩ ⟨⟨hc.oh.f.u, hc.oh.f.m, hc.oh.f.v⟩, hc.oh.t⟩
  have ht := (Tch.refl [g] w).setCell (g := g) (.inl (by simp)) 2 (.bool (v == 1))
  have hr : FlagP g h K 2 v w (.returned (.bool (v == 0 || v == 1))) (w.setCell ⟨g, 2, none⟩ (.bool (v == 1))) := by
    refine ⟨?_, hcv, ht⟩
    congr 2
    rw [Bool.eq_iff_iff]
    simp
    omega
  have e1 : ((v : Int) == 1) = (v == 1) := by rw [Bool.eq_iff_iff]; simp; omega
  have e0 : ((v : Int) == 0) = (v == 0) := by rw [Bool.eq_iff_iff]; simp
  generalize (v == 1) = y at *
  generalize (v == 0) = z at *
  have HR := Lib.hid hr
  clear hc hcv ht hr
  cases z
  · go_enter Try.func52, Try.ntmps52
    go_wp2
    go_ret
    exact HR.out
  · go_enter Try.func52, Try.ntmps52
    go_wp2
    go_ret
    exact HR.out
theorem flag_3 (g h : Nat) (K : Cg) (v : Nat) (w : World) (hc : Cv g h K w) : Calls Try.prog 52 #[.pointer (some ⟨g, 0, none⟩), .int .i64 3, .int .i64 v] w (FlagP g h K 3 v w) := by
  have c5 := hc.blk.cell 5
  simp only [List.getElem?_toArray, List.getElem?_cons_zero, List.getElem?_cons_succ] at c5
  have f5 := hc.blk.frozen 5
  have hcv : Cv g h { K with f := K.f.flag 3 (v == 1) } (w.setCell ⟨g, 5, none⟩ (.bool (v == 1))) :=
    hc.put (G := { K with f := K.f.flag 3 (v == 1) }) rfl ⟨hc.at'.f.ext ⟨rfl, rfl, rfl, rfl, rfl, rfl⟩, hc.at'.t⟩ ⟨⟨hc.og.f.u, hc.og.f.m, hc.og.f.v⟩, hc.og.t⟩ ⟨⟨hc.oh.f.u, hc.oh.f.m, hc.oh.f.v⟩, hc.oh.t⟩
  have ht := (Tch.refl [g] w).setCell (g := g) (.inl (by simp)) 5 (.bool (v == 1))
  have hr : FlagP g h K 3 v w (.returned (.bool (v == 0 || v == 1))) (w.setCell ⟨g, 5, none⟩ (.bool (v == 1))) := by
    refine ⟨?_, hcv, ht⟩
    congr 2
    rw [Bool.eq_iff_iff]
    simp
    omega
  have e1 : ((v : Int) == 1) = (v == 1) := by rw [Bool.eq_iff_iff]; simp; omega
  have e0 : ((v : Int) == 0) = (v == 0) := by rw [Bool.eq_iff_iff]; simp
  generalize (v == 1) = y at *
  generalize (v == 0) = z at *
  have HR := Lib.hid hr
  clear hc hcv ht hr
  cases z
  · go_enter Try.func52, Try.ntmps52
    go_wp2
    go_ret
    exact HR.out
  · go_enter Try.func52, Try.ntmps52
    go_wp2
    go_ret
    exact HR.out
theorem flag_4 (g h : Nat) (K : Cg) (v : Nat) (w : World) (hc : Cv g h K w) : Calls Try.prog 52 #[.pointer (some ⟨g, 0, none⟩), .int .i64 4, .int .i64 v] w (FlagP g h K 4 v w) := by
  have c4 := hc.blk.cell 4
  simp only [List.getElem?_toArray, List.getElem?_cons_zero, List.getElem?_cons_succ] at c4
  have f4 := hc.blk.frozen 4
  have hcv : Cv g h { K with f := K.f.flag 4 (v == 1) } (w.setCell ⟨g, 4, none⟩ (.bool (v == 1))) :=
    hc.put (G := { K with f := K.f.flag 4 (v == 1) }) rfl ⟨hc.at'.f.ext ⟨rfl, rfl, rfl, rfl, rfl, rfl⟩, hc.at'.t⟩ ⟨⟨hc.og.f.u, hc.og.f.m, hc.og.f.v⟩, hc.og.t⟩ ⟨⟨hc.oh.f.u, hc.oh.f.m, hc.oh.f.v⟩, hc.oh.t⟩
  have ht := (Tch.refl [g] w).setCell (g := g) (.inl (by simp)) 4 (.bool (v == 1))
  have hr : FlagP g h K 4 v w (.returned (.bool (v == 0 || v == 1))) (w.setCell ⟨g, 4, none⟩ (.bool (v == 1))) := by
    refine ⟨?_, hcv, ht⟩
    congr 2
    rw [Bool.eq_iff_iff]
    simp
    omega
  have e1 : ((v : Int) == 1) = (v == 1) := by rw [Bool.eq_iff_iff]; simp; omega
  have e0 : ((v : Int) == 0) = (v == 0) := by rw [Bool.eq_iff_iff]; simp
  generalize (v == 1) = y at *
  generalize (v == 0) = z at *
  have HR := Lib.hid hr
  clear hc hcv ht hr
  cases z
  · go_enter Try.func52, Try.ntmps52
    go_wp2
    go_ret
    exact HR.out
  · go_enter Try.func52, Try.ntmps52
    go_wp2
    go_ret
    exact HR.out
theorem flag_5 (g h : Nat) (K : Cg) (v : Nat) (w : World) (hc : Cv g h K w) : Calls Try.prog 52 #[.pointer (some ⟨g, 0, none⟩), .int .i64 5, .int .i64 v] w (FlagP g h K 5 v w) := by
  have c6 := hc.blk.cell 6
  simp only [List.getElem?_toArray, List.getElem?_cons_zero, List.getElem?_cons_succ] at c6
  have f6 := hc.blk.frozen 6
  have hcv : Cv g h { K with f := K.f.flag 5 (v == 1) } (w.setCell ⟨g, 6, none⟩ (.bool (v == 1))) :=
    hc.put (G := { K with f := K.f.flag 5 (v == 1) }) rfl ⟨hc.at'.f.ext ⟨rfl, rfl, rfl, rfl, rfl, rfl⟩, hc.at'.t⟩ ⟨⟨hc.og.f.u, hc.og.f.m, hc.og.f.v⟩, hc.og.t⟩ ⟨⟨hc.oh.f.u, hc.oh.f.m, hc.oh.f.v⟩, hc.oh.t⟩
  have ht := (Tch.refl [g] w).setCell (g := g) (.inl (by simp)) 6 (.bool (v == 1))
  have hr : FlagP g h K 5 v w (.returned (.bool (v == 0 || v == 1))) (w.setCell ⟨g, 6, none⟩ (.bool (v == 1))) := by
    refine ⟨?_, hcv, ht⟩
    congr 2
    rw [Bool.eq_iff_iff]
    simp
    omega
  have e1 : ((v : Int) == 1) = (v == 1) := by rw [Bool.eq_iff_iff]; simp; omega
  have e0 : ((v : Int) == 0) = (v == 0) := by rw [Bool.eq_iff_iff]; simp
  generalize (v == 1) = y at *
  generalize (v == 0) = z at *
  have HR := Lib.hid hr
  clear hc hcv ht hr
  cases z
  · go_enter Try.func52, Try.ntmps52
    go_wp2
    go_ret
    exact HR.out
  · go_enter Try.func52, Try.ntmps52
    go_wp2
    go_ret
    exact HR.out
theorem flag_many (g h : Nat) (K : Cg) (n v : Nat) (w : World) (hn : 5 < n) (hn2 : n < 256) (hc : Cv g h K w) : Calls Try.prog 52 #[.pointer (some ⟨g, 0, none⟩), .int .i64 n, .int .i64 v] w (FlagP g h K n v w) := by
  have hr : FlagP g h K n v w (.returned (.bool false)) w := by
    refine ⟨?_, ?_, Tch.refl _ _⟩
    · rw [show decide (n ≤ 5) = false by simpa using hn]; rfl
    · rw [Fl.flag_many _ _ _ hn]; exact hc
  have HR := Lib.hid hr
  clear hc hr
  have n0 : ((n : Int) == 0) = false := by rw [beq_eq_false_iff_ne]; omega
  have n1 : ((n : Int) == 1) = false := by rw [beq_eq_false_iff_ne]; omega
  have n2 : ((n : Int) == 2) = false := by rw [beq_eq_false_iff_ne]; omega
  have n3 : ((n : Int) == 3) = false := by rw [beq_eq_false_iff_ne]; omega
  have n4 : ((n : Int) == 4) = false := by rw [beq_eq_false_iff_ne]; omega
  have n5 : ((n : Int) == 5) = false := by rw [beq_eq_false_iff_ne]; omega
  clear hn hn2
  generalize ((v : Int) == 1) = y at *
  go_enter Try.func52, Try.ntmps52
  go_wp2
  go_ret
  exact HR.out
theorem flag_any (g h : Nat) (K : Cg) (n v : Nat) (w : World) (hn : n < 256) (hc : Cv g h K w) : Calls Try.prog 52 #[.pointer (some ⟨g, 0, none⟩), .int .i64 n, .int .i64 v] w (FlagP g h K n v w) := by
  by_cases h5 : 5 < n
  · exact flag_many g h K n v w h5 hn hc
  · obtain rfl | rfl | rfl | rfl | rfl | rfl : n = 0 ∨ n = 1 ∨ n = 2 ∨ n = 3 ∨ n = 4 ∨ n = 5 := by omega
    · exact flag_0 g h K v w hc
    · exact flag_1 g h K v w hc
    · exact flag_2 g h K v w hc
    · exact flag_3 g h K v w hc
    · exact flag_4 g h K v w hc
    · exact flag_5 g h K v w hc
/-- a chain of stores into one block -/
theorem Blk.store {w : World} {g : Nat} {t : TypeId} {cs : Array Value} (h : Blk w g t cs) (o : Nat) (vs : List Value) (hl : o + vs.length ≤ cs.size) : Blk (w.setCells g o vs) g t (cs.toList.take o ++ vs ++ cs.toList.drop (o + vs.length)).toArray := by
  obtain ⟨ds, h1, h2⟩ := Blk.puts vs o w cs h hl
  rw [← h2]
  exact h1
theorem Tch.store {gs : List Nat} {g : Nat} {w : World} : ∀ (vs : List Value) (o : Nat) (w' : World), Tch gs w w' → (g ∈ gs ∨ w.heap.size ≤ g) → Tch gs w (w'.setCells g o vs)
  | [], _, _, h, _ => h
  | v :: r, o, _, h, hg => Tch.store r (o + 1) _ (h.setCell hg o v) hg
theorem setCells_size {g : Nat} : ∀ (vs : List Value) (o : Nat) (w : World), (w.setCells g o vs).heap.size = w.heap.size
  | [], _, _ => rfl
  | _ :: r, o, _ => (setCells_size r (o + 1) _).trans (setCell_size _ _ _)
theorem Cv.store {g h : Nat} {K G : Cg} {w : World} (c : Cv g h K w) (o : Nat) (vs : List Value) (hl : o + vs.length ≤ 18) (hc : (K.cells.toList.take o ++ vs ++ K.cells.toList.drop (o + vs.length)).toArray = G.cells) (ha : G.At w.heap.size w) (og : G.Ofs g) (oh : G.Ofs h) : Cv g h G (w.setCells g o vs) := by
  have hs := setCells_size (g := g) vs o w
  refine ⟨?_, c.ne, by rw [hs]; exact c.lt, ?_, og, oh⟩
  · have := c.blk.store o vs hl
    rw [hc] at this
    exact this
  · rw [hs]
    exact ha.tch (Tch.store vs o w (Tch.refl [g] w) (.inl (by simp))) (Nat.le_refl _) (by simpa using og)
/-- the addresses that macs takes, what is left then, was more asked for than there was? -/
def mcL (s : ByteArray) : List ByteArray := if 16 < nm s 4 then [] else stL (tkR s 4) 6 (nm s 4)
def mcS (s : ByteArray) : ByteArray := if 16 < nm s 4 then tkR s 4 else stS (tkR s 4) 6 (nm s 4)
def mcB (s : ByteArray) (b : Bool) : Bool := if 16 < nm s 4 then true else stB (tkR s 4) (tkB s 4 b) 6 (nm s 4)
theorem mcL_length (s : ByteArray) : (mcL s).length ≤ 16 := by
  unfold mcL
  split
  · simp
  · rw [stL_length]; omega
theorem mcS_size (s : ByteArray) : (mcS s).size ≤ s.size := by
  unfold mcS
  split
  · exact tkR_size _ _
  · exact Nat.le_trans (stS_size _ _ _) (tkR_size _ _)
theorem own_nil (base : Nat) (e : TypeId) (w : World) : w.ownsRow base e 1 (.slice none 0 0) 0 [] := ⟨rfl, .inl ⟨rfl, rfl⟩⟩
theorem cmacs_any (h : Nat) (s : ByteArray) (b : Bool) (w : World) (hs : s.size ≤ maxLen) (hb : Blk w h 64 (rdC s b)) :
    Calls Try.prog 65 #[.pointer (some ⟨h, 0, none⟩)] w fun e w' =>
      ∃ A c, e = .returned (.slice A (mcL s).length c) ∧ OwnS w.heap.size A c (mcL s) w' ∧ Blk w' h 64 (rdC (mcS s) (mcB s b)) ∧ Tch [h] w w' := by
  unfold mcL mcS mcB
  by_cases hn : 16 < nm s 4
  · rw [if_pos hn, if_pos hn, if_pos hn]
    exact (cmacs_bad h s b w hs hn hb).mono fun e w' ⟨he, hk, ht⟩ => ⟨none, 0, he, own_nil _ _ _, hk, ht⟩
  · rw [if_neg hn, if_neg hn, if_neg hn]
    refine (cmacs_good h s b (nm s 4) w hs rfl (by omega) hb).mono ?_
    rintro e w' ⟨A, c, he, ho, hk, ht⟩
    exact ⟨A, c, by rw [he, stL_length], ho, hk, ht⟩
def Mac0P (g h : Nat) (K : Cg) (s : ByteArray) (b : Bool) (w : World) (e : Ending) (w' : World) : Prop :=
  ∃ U uc M mc, e = .returned (.bool true) ∧ Cv g h { K with f := { K.f with U := U, us := mcL s, uc := uc, M := M, ms := mcL (mcS s), mc := mc } } w' ∧
    Blk w' h 64 (rdC (mcS (mcS s)) (mcB (mcS s) (mcB s b))) ∧ Tch [g, h] w w'
set_option maxHeartbeats 1000000 in
theorem macs0 (g h : Nat) (K : Cg) (s : ByteArray) (b : Bool) (w : World) (hs : s.size ≤ maxLen) (hc : Cv g h K w) (hb : Blk w h 64 (rdC s b)) :
    Calls Try.prog 53 #[.pointer (some ⟨g, 0, none⟩), .int .i64 0, .pointer (some ⟨h, 0, none⟩)] w (Mac0P g h K s b w) := by
  have A1 := cmacs_any h s b w hs hb
  have A2 := fun W (hk : Blk W h 64 (rdC (mcS s) (mcB s b))) => cmacs_any h (mcS s) (mcB s b) W (Nat.le_trans (mcS_size s) hs) hk
  unfold Mac0P
  obtain ⟨u, hu⟩ : ∃ u, mcL s = u := ⟨_, rfl⟩
  obtain ⟨m, hm⟩ : ∃ m, mcL (mcS s) = m := ⟨_, rfl⟩
  obtain ⟨s1, hs1⟩ : ∃ s1, mcS s = s1 := ⟨_, rfl⟩
  obtain ⟨b1, hb1⟩ : ∃ b1, mcB s b = b1 := ⟨_, rfl⟩
  rw [hs1, hb1] at A2
  rw [hs1] at hm
  rw [hm] at A2
  rw [hu, hs1, hb1] at A1
  rw [hs1, hb1, hu, hm]
  have H1 := Lib.hid A1
  have H2 := Lib.hid A2
  have HC := Lib.hid hc
  clear A1 A2 hc hb hu hm hs1 hb1
  go_enter Try.func53, Try.ntmps53
  go_wp2_with fail
  refine (H1.out).mono ?_
  rintro e w1 ⟨U, uc, rfl, hO, hk, ht⟩
  have hc1 := HC.out.next ht
  have c7 := hc1.blk.cell 7
  simp only [List.getElem?_toArray, List.getElem?_cons_zero, List.getElem?_cons_succ] at c7
  have f7 := hc1.blk.frozen 7
  have hU : Cv g h { K with f := { K.f with U := U, us := u, uc := uc } } (w1.setCell ⟨g, 7, none⟩ (.slice U u.length uc)) := by
    have hg := HC.out.blk.lt
    have hh := HC.out.lt
    exact hc1.put (G := { K with f := { K.f with U := U, us := u, uc := uc } }) rfl ⟨⟨Rd.own hO (Nat.le_refl _), hc1.at'.f.m, hc1.at'.f.v⟩, hc1.at'.t⟩ ⟨⟨offL_own hO hg, hc1.og.f.m, hc1.og.f.v⟩, hc1.og.t⟩ ⟨⟨offL_own hO hh, hc1.oh.f.m, hc1.oh.f.v⟩, hc1.oh.t⟩
  have hT : Tch [g, h] w (w1.setCell ⟨g, 7, none⟩ (.slice U u.length uc)) := (ht.mono (by simp)).setCell (.inl (by simp)) _ _
  have hk2 := hk.other (k := g) (by have := HC.out.ne; omega) 7 (.slice U u.length uc)
  have HU := Lib.hid hU
  have HT := Lib.hid hT
  have HK := Lib.hid hk2
  clear hO hk ht hc1 hU hT hk2 H1
  go_wp2_with fail
  refine (H2.out _ HK.out).mono ?_
  rintro e w3 ⟨M, mc, rfl, hO, hk, ht⟩
  have hc1 := HU.out.next ht
  clear c7 f7
  have c8 := hc1.blk.cell 8
  simp only [List.getElem?_toArray, List.getElem?_cons_zero, List.getElem?_cons_succ] at c8
  have f8 := hc1.blk.frozen 8
  have hU : Cv g h { K with f := { K.f with U := U, us := u, uc := uc, M := M, ms := m, mc := mc } } (w3.setCell ⟨g, 8, none⟩ (.slice M m.length mc)) := by
    have hg := HU.out.blk.lt
    have hh := HU.out.lt
    exact hc1.put (G := { K with f := { K.f with U := U, us := u, uc := uc, M := M, ms := m, mc := mc } }) rfl ⟨⟨hc1.at'.f.u, Rd.own hO (Nat.le_refl _), hc1.at'.f.v⟩, hc1.at'.t⟩ ⟨⟨hc1.og.f.u, offL_own hO hg, hc1.og.f.v⟩, hc1.og.t⟩ ⟨⟨hc1.oh.f.u, offL_own hO hh, hc1.oh.f.v⟩, hc1.oh.t⟩
  have hT : Tch [g, h] w (w3.setCell ⟨g, 8, none⟩ (.slice M m.length mc)) := (HT.out.trans (ht.mono (by simp))).setCell (.inl (by simp)) _ _
  have hk2 := hk.other (k := g) (by have := HC.out.ne; omega) 8 (.slice M m.length mc)
  have HU2 := Lib.hid hU
  have HT2 := Lib.hid hT
  have HK2 := Lib.hid hk2
  clear hO hk ht hc1 hU hT hk2 H2 HU HT HK
  go_wp2_with fail
  go_ret
  exact ⟨U, uc, M, mc, rfl, HU2.out, HK2.out, HT2.out⟩
theorem macs1 (g h : Nat) (K : Cg) (s : ByteArray) (b : Bool) (w : World) (hs : s.size ≤ maxLen) (hc : Cv g h K w) (hb : Blk w h 64 (rdC s b)) :
    Calls Try.prog 53 #[.pointer (some ⟨g, 0, none⟩), .int .i64 1, .pointer (some ⟨h, 0, none⟩)] w fun e w' =>
      e = .returned (.bool true) ∧ Cv g h { K with f := { K.f with mac := tkS s 6 } } w' ∧ Blk w' h 64 (rdC (tkR s 6) (tkB s 6 b)) ∧ Tch [g, h] w w' := by
  have A1 := take_any h s b 6 w hs (by omega) hb
  generalize tkS s 6 = q at *
  generalize tkR s 6 = s1 at *
  generalize tkB s 6 b = b1 at *
  have H1 := Lib.hid A1
  have HC := Lib.hid hc
  clear A1 hc hb
  go_enter Try.func53, Try.ntmps53
  go_wp2_with fail
  refine (H1.out).mono ?_
  rintro e w1 ⟨rfl, hk, ht⟩
  have hc1 := HC.out.next ht
  have c0 := hc1.blk.cell 0
  simp only [List.getElem?_toArray, List.getElem?_cons_zero] at c0
  have f0 := hc1.blk.frozen 0
  have hU : Cv g h { K with f := { K.f with mac := q } } (w1.setCell ⟨g, 0, none⟩ (.string q)) :=
    hc1.put (G := { K with f := { K.f with mac := q } }) rfl ⟨⟨hc1.at'.f.u, hc1.at'.f.m, hc1.at'.f.v⟩, hc1.at'.t⟩ ⟨⟨hc1.og.f.u, hc1.og.f.m, hc1.og.f.v⟩, hc1.og.t⟩ ⟨⟨hc1.oh.f.u, hc1.oh.f.m, hc1.oh.f.v⟩, hc1.oh.t⟩
  have hT : Tch [g, h] w (w1.setCell ⟨g, 0, none⟩ (.string q)) := (ht.mono (by simp)).setCell (.inl (by simp)) _ _
  have hk2 := hk.other (k := g) (by have := HC.out.ne; omega) 0 (.string q)
  have HU := Lib.hid hU
  have HT := Lib.hid hT
  have HK := Lib.hid hk2
  clear hk ht hc1 hU hT hk2 H1
  go_wp2_with fail
  go_ret
  exact ⟨rfl, HU.out, HK.out, HT.out⟩
theorem macs2 (g h : Nat) (n : Nat) (w : World) (hn : 1 < n) :
    Calls Try.prog 53 #[.pointer (some ⟨g, 0, none⟩), .int .i64 n, .pointer (some ⟨h, 0, none⟩)] w fun e w' => e = .returned (.bool false) ∧ w = w' := by
  have n0 : ((n : Int) == 0) = false := by rw [beq_eq_false_iff_ne]; omega
  have n1 : ((n : Int) == 1) = false := by rw [beq_eq_false_iff_ne]; omega
  clear hn
  go_enter Try.func53, Try.ntmps53
  go_wp2
  go_ret
  exact ⟨rfl, rfl⟩
def VlanP (g h : Nat) (K : Cg) (X : List Int) (w : World) (e : Ending) (w' : World) : Prop :=
  ∃ G : Fl, e = .returned (.bool true) ∧ ({ K.f with vs := X } : Fl).Same G ∧ Cv g h { K with f := G } w' ∧ Tch [g] w w'
set_option maxHeartbeats 1000000 in
theorem vlan_add (g h : Nat) (K : Cg) (v : Nat) (w : World) (hc : Cv g h K w) (hl : K.f.Few) (hv : isV v = true) (ha : ascB K.f.vs = true) :
    Calls Try.prog 54 #[.pointer (some ⟨g, 0, none⟩), .int .i64 0, .int .i64 v] w (VlanP g h K (addL K.f.vs v) w) := by
  have A1 := add_any K.f v w.heap.size w hc.at'.f (Nat.le_refl _) hl hv ha
  have c0 := hc.blk.cell 0
  have c1 := hc.blk.cell 1
  have c2 := hc.blk.cell 2
  have c3 := hc.blk.cell 3
  have c4 := hc.blk.cell 4
  have c5 := hc.blk.cell 5
  have c6 := hc.blk.cell 6
  have c7 := hc.blk.cell 7
  have c8 := hc.blk.cell 8
  have c9 := hc.blk.cell 9
  have c10 := hc.blk.cell 10
  simp only [List.getElem?_toArray, List.getElem?_cons_zero, List.getElem?_cons_succ] at c0 c1 c2 c3 c4 c5 c6 c7 c8 c9 c10
  unfold VlanP
  obtain ⟨X, hX⟩ : ∃ X, addL K.f.vs v = X := ⟨_, rfl⟩
  rw [hX] at A1 ⊢
  clear hX hl hv ha
  have H1 := Lib.hid A1
  have HC := Lib.hid hc
  clear A1 hc
  go_enter Try.func54, Try.ntmps54
  go_wp2_with fail
  refine (H1.out).mono ?_
  rintro e w1 ⟨G, hS, rfl, hO, hq⟩
  have hc1 := HC.out.below hq
  clear c0 c1 c2 c3 c4 c5 c6 c7 c8 c9 c10
  have c0 := hc1.blk.cell 0
  have c1 := hc1.blk.cell 1
  have c2 := hc1.blk.cell 2
  have c3 := hc1.blk.cell 3
  have c4 := hc1.blk.cell 4
  have c5 := hc1.blk.cell 5
  have c6 := hc1.blk.cell 6
  have c7 := hc1.blk.cell 7
  have c8 := hc1.blk.cell 8
  have c9 := hc1.blk.cell 9
  have c10 := hc1.blk.cell 10
  simp only [List.getElem?_toArray, List.getElem?_cons_zero, List.getElem?_cons_succ] at c0 c1 c2 c3 c4 c5 c6 c7 c8 c9 c10
  have f0 := hc1.blk.frozen 0
  have f1 := hc1.blk.frozen 1
  have f2 := hc1.blk.frozen 2
  have f3 := hc1.blk.frozen 3
  have f4 := hc1.blk.frozen 4
  have f5 := hc1.blk.frozen 5
  have f6 := hc1.blk.frozen 6
  have f7 := hc1.blk.frozen 7
  have f8 := hc1.blk.frozen 8
  have f9 := hc1.blk.frozen 9
  have f10 := hc1.blk.frozen 10
  have hU : Cv g h { K with f := G } (w1.setCells g 0 [.string G.mac, .bool G.pr, .bool G.au, .bool G.am, .bool G.nu, .bool G.nm, .bool G.na, .slice G.U G.us.length G.uc, .slice G.M G.ms.length G.mc, .bool G.vo, .slice G.V G.vs.length G.vc]) := by
    have hg := HC.out.blk.lt
    have hh := HC.out.lt
    exact hc1.store (G := { K with f := G }) 0 _ (by simp) rfl ⟨hO.at (Nat.le_refl _), hc1.at'.t⟩ ⟨hO.ofs hg, hc1.og.t⟩ ⟨hO.ofs hh, hc1.oh.t⟩
  have hT : Tch [g] w (w1.setCells g 0 [.string G.mac, .bool G.pr, .bool G.au, .bool G.am, .bool G.nu, .bool G.nm, .bool G.na, .slice G.U G.us.length G.uc, .slice G.M G.ms.length G.mc, .bool G.vo, .slice G.V G.vs.length G.vc]) := Tch.store _ 0 _ (Tch.of_below hq _) (.inl (by simp))
  simp only [World.setCells, Nat.reduceAdd] at hU hT
  have HU := Lib.hid hU
  have HT := Lib.hid hT
  have HS := Lib.hid hS
  obtain ⟨mac, pr, au, am, nu, nm, na, U, us, uc, M, ms, mc, vo, V, vs, vc⟩ := G
  clear hO hq hc1 hU hT H1 HC hS
  go_wp2_with fail
  go_ret
  exact ⟨_, rfl, HS.out, HU.out, HT.out⟩
set_option maxHeartbeats 1000000 in
theorem vlan_add_bad (g h : Nat) (K : Cg) (v : Nat) (w : World) (hc : Cv g h K w) (hl : K.f.Few) (hbad : isV v = false ∨ ascB K.f.vs = false) :
    Calls Try.prog 54 #[.pointer (some ⟨g, 0, none⟩), .int .i64 0, .int .i64 v] w fun e w' => e = .returned (.bool false) ∧ Tch [g] w w' := by
  have A1 := add_bad K.f v w.heap.size w hc.at'.f (Nat.le_refl _) hl hbad
  have c0 := hc.blk.cell 0
  have c1 := hc.blk.cell 1
  have c2 := hc.blk.cell 2
  have c3 := hc.blk.cell 3
  have c4 := hc.blk.cell 4
  have c5 := hc.blk.cell 5
  have c6 := hc.blk.cell 6
  have c7 := hc.blk.cell 7
  have c8 := hc.blk.cell 8
  have c9 := hc.blk.cell 9
  have c10 := hc.blk.cell 10
  simp only [List.getElem?_toArray, List.getElem?_cons_zero, List.getElem?_cons_succ] at c0 c1 c2 c3 c4 c5 c6 c7 c8 c9 c10
  have H1 := Lib.hid A1
  have HC := Lib.hid hc
  clear A1 hc hl hbad
  go_enter Try.func54, Try.ntmps54
  go_wp2_with fail
  refine (H1.out).mono ?_
  rintro e w1 ⟨rfl, hq⟩
  have hc1 := HC.out.below hq
  clear c0 c1 c2 c3 c4 c5 c6 c7 c8 c9 c10
  have c0 := hc1.blk.cell 0
  have c1 := hc1.blk.cell 1
  have c2 := hc1.blk.cell 2
  have c3 := hc1.blk.cell 3
  have c4 := hc1.blk.cell 4
  have c5 := hc1.blk.cell 5
  have c6 := hc1.blk.cell 6
  have c7 := hc1.blk.cell 7
  have c8 := hc1.blk.cell 8
  have c9 := hc1.blk.cell 9
  have c10 := hc1.blk.cell 10
  simp only [List.getElem?_toArray, List.getElem?_cons_zero, List.getElem?_cons_succ] at c0 c1 c2 c3 c4 c5 c6 c7 c8 c9 c10
  have f0 := hc1.blk.frozen 0
  have f1 := hc1.blk.frozen 1
  have f2 := hc1.blk.frozen 2
  have f3 := hc1.blk.frozen 3
  have f4 := hc1.blk.frozen 4
  have f5 := hc1.blk.frozen 5
  have f6 := hc1.blk.frozen 6
  have f7 := hc1.blk.frozen 7
  have f8 := hc1.blk.frozen 8
  have f9 := hc1.blk.frozen 9
  have f10 := hc1.blk.frozen 10
  have hT : Tch [g] w (w1.setCells g 0 [.string ⟨#[]⟩, .bool false, .bool false, .bool false, .bool false, .bool false, .bool false, .slice none 0 0, .slice none 0 0, .bool false, .slice none 0 0]) := Tch.store _ 0 _ (Tch.of_below hq _) (.inl (by simp))
  simp only [World.setCells, Nat.reduceAdd] at hT
  have HT := Lib.hid hT
  clear hq hc1 hT H1 HC
  go_wp2_with fail
  go_ret
  exact ⟨rfl, HT.out⟩
set_option maxHeartbeats 1000000 in
theorem vlan_del (g h : Nat) (K : Cg) (v : Nat) (w : World) (hc : Cv g h K w) (hl : K.f.Few) (hv : isV v = true) (ha : ascB K.f.vs = true) :
    Calls Try.prog 54 #[.pointer (some ⟨g, 0, none⟩), .int .i64 1, .int .i64 v] w (VlanP g h K (delL K.f.vs v) w) := by
  have A1 := del_any K.f v w.heap.size w hc.at'.f (Nat.le_refl _) hl hv ha
  have c0 := hc.blk.cell 0
  have c1 := hc.blk.cell 1
  have c2 := hc.blk.cell 2
  have c3 := hc.blk.cell 3
  have c4 := hc.blk.cell 4
  have c5 := hc.blk.cell 5
  have c6 := hc.blk.cell 6
  have c7 := hc.blk.cell 7
  have c8 := hc.blk.cell 8
  have c9 := hc.blk.cell 9
  have c10 := hc.blk.cell 10
  simp only [List.getElem?_toArray, List.getElem?_cons_zero, List.getElem?_cons_succ] at c0 c1 c2 c3 c4 c5 c6 c7 c8 c9 c10
  unfold VlanP
  obtain ⟨X, hX⟩ : ∃ X, delL K.f.vs v = X := ⟨_, rfl⟩
  rw [hX] at A1 ⊢
  clear hX hl hv ha
  have H1 := Lib.hid A1
  have HC := Lib.hid hc
  clear A1 hc
  go_enter Try.func54, Try.ntmps54
  go_wp2_with fail
  refine (H1.out).mono ?_
  rintro e w1 ⟨G, hS, rfl, hO, hq⟩
  have hc1 := HC.out.below hq
  clear c0 c1 c2 c3 c4 c5 c6 c7 c8 c9 c10
  have c0 := hc1.blk.cell 0
  have c1 := hc1.blk.cell 1
  have c2 := hc1.blk.cell 2
  have c3 := hc1.blk.cell 3
  have c4 := hc1.blk.cell 4
  have c5 := hc1.blk.cell 5
  have c6 := hc1.blk.cell 6
  have c7 := hc1.blk.cell 7
  have c8 := hc1.blk.cell 8
  have c9 := hc1.blk.cell 9
  have c10 := hc1.blk.cell 10
  simp only [List.getElem?_toArray, List.getElem?_cons_zero, List.getElem?_cons_succ] at c0 c1 c2 c3 c4 c5 c6 c7 c8 c9 c10
  have f0 := hc1.blk.frozen 0
  have f1 := hc1.blk.frozen 1
  have f2 := hc1.blk.frozen 2
  have f3 := hc1.blk.frozen 3
  have f4 := hc1.blk.frozen 4
  have f5 := hc1.blk.frozen 5
  have f6 := hc1.blk.frozen 6
  have f7 := hc1.blk.frozen 7
  have f8 := hc1.blk.frozen 8
  have f9 := hc1.blk.frozen 9
  have f10 := hc1.blk.frozen 10
  have hU : Cv g h { K with f := G } (w1.setCells g 0 [.string G.mac, .bool G.pr, .bool G.au, .bool G.am, .bool G.nu, .bool G.nm, .bool G.na, .slice G.U G.us.length G.uc, .slice G.M G.ms.length G.mc, .bool G.vo, .slice G.V G.vs.length G.vc]) := by
    have hg := HC.out.blk.lt
    have hh := HC.out.lt
    exact hc1.store (G := { K with f := G }) 0 _ (by simp) rfl ⟨hO.at (Nat.le_refl _), hc1.at'.t⟩ ⟨hO.ofs hg, hc1.og.t⟩ ⟨hO.ofs hh, hc1.oh.t⟩
  have hT : Tch [g] w (w1.setCells g 0 [.string G.mac, .bool G.pr, .bool G.au, .bool G.am, .bool G.nu, .bool G.nm, .bool G.na, .slice G.U G.us.length G.uc, .slice G.M G.ms.length G.mc, .bool G.vo, .slice G.V G.vs.length G.vc]) := Tch.store _ 0 _ (Tch.of_below hq _) (.inl (by simp))
  simp only [World.setCells, Nat.reduceAdd] at hU hT
  have HU := Lib.hid hU
  have HT := Lib.hid hT
  have HS := Lib.hid hS
  obtain ⟨mac, pr, au, am, nu, nm, na, U, us, uc, M, ms, mc, vo, V, vs, vc⟩ := G
  clear hO hq hc1 hU hT H1 HC hS
  go_wp2_with fail
  go_ret
  exact ⟨_, rfl, HS.out, HU.out, HT.out⟩
set_option maxHeartbeats 1000000 in
theorem vlan_del_bad (g h : Nat) (K : Cg) (v : Nat) (w : World) (hc : Cv g h K w) (hl : K.f.Few) (hbad : isV v = false ∨ ascB K.f.vs = false) :
    Calls Try.prog 54 #[.pointer (some ⟨g, 0, none⟩), .int .i64 1, .int .i64 v] w fun e w' => e = .returned (.bool false) ∧ Tch [g] w w' := by
  have A1 := del_bad K.f v w.heap.size w hc.at'.f (Nat.le_refl _) hl hbad
  have c0 := hc.blk.cell 0
  have c1 := hc.blk.cell 1
  have c2 := hc.blk.cell 2
  have c3 := hc.blk.cell 3
  have c4 := hc.blk.cell 4
  have c5 := hc.blk.cell 5
  have c6 := hc.blk.cell 6
  have c7 := hc.blk.cell 7
  have c8 := hc.blk.cell 8
  have c9 := hc.blk.cell 9
  have c10 := hc.blk.cell 10
  simp only [List.getElem?_toArray, List.getElem?_cons_zero, List.getElem?_cons_succ] at c0 c1 c2 c3 c4 c5 c6 c7 c8 c9 c10
  have H1 := Lib.hid A1
  have HC := Lib.hid hc
  clear A1 hc hl hbad
  go_enter Try.func54, Try.ntmps54
  go_wp2_with fail
  refine (H1.out).mono ?_
  rintro e w1 ⟨rfl, hq⟩
  have hc1 := HC.out.below hq
  clear c0 c1 c2 c3 c4 c5 c6 c7 c8 c9 c10
  have c0 := hc1.blk.cell 0
  have c1 := hc1.blk.cell 1
  have c2 := hc1.blk.cell 2
  have c3 := hc1.blk.cell 3
  have c4 := hc1.blk.cell 4
  have c5 := hc1.blk.cell 5
  have c6 := hc1.blk.cell 6
  have c7 := hc1.blk.cell 7
  have c8 := hc1.blk.cell 8
  have c9 := hc1.blk.cell 9
  have c10 := hc1.blk.cell 10
  simp only [List.getElem?_toArray, List.getElem?_cons_zero, List.getElem?_cons_succ] at c0 c1 c2 c3 c4 c5 c6 c7 c8 c9 c10
  have f0 := hc1.blk.frozen 0
  have f1 := hc1.blk.frozen 1
  have f2 := hc1.blk.frozen 2
  have f3 := hc1.blk.frozen 3
  have f4 := hc1.blk.frozen 4
  have f5 := hc1.blk.frozen 5
  have f6 := hc1.blk.frozen 6
  have f7 := hc1.blk.frozen 7
  have f8 := hc1.blk.frozen 8
  have f9 := hc1.blk.frozen 9
  have f10 := hc1.blk.frozen 10
  have hT : Tch [g] w (w1.setCells g 0 [.string ⟨#[]⟩, .bool false, .bool false, .bool false, .bool false, .bool false, .bool false, .slice none 0 0, .slice none 0 0, .bool false, .slice none 0 0]) := Tch.store _ 0 _ (Tch.of_below hq _) (.inl (by simp))
  simp only [World.setCells, Nat.reduceAdd] at hT
  have HT := Lib.hid hT
  clear hq hc1 hT H1 HC
  go_wp2_with fail
  go_ret
  exact ⟨rfl, HT.out⟩
theorem vlan_many (g : Nat) (n v : Nat) (w : World) (hn : 1 < n) :
    Calls Try.prog 54 #[.pointer (some ⟨g, 0, none⟩), .int .i64 n, .int .i64 v] w fun e w' => e = .returned (.bool false) ∧ w = w' := by
  have n0 : ((n : Int) == 0) = false := by rw [beq_eq_false_iff_ne]; omega
  have n1 : ((n : Int) == 1) = false := by rw [beq_eq_false_iff_ne]; omega
  clear hn
  go_enter Try.func54, Try.ntmps54
  go_wp2
  go_ret
  exact ⟨rfl, rfl⟩
end Go.Proofs.Ytongkfimgohhbaa
