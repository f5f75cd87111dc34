/-
  The document's memory: note, for every memory whose log has room.
-/
import Derived.Test.YtbpgblmhacpjlaaGreatZe
namespace Go.Proofs.YtbpgblmhacpjlaaGreat
open Go.RowKit

theorem empty_own (w : World) (B : Nat) (hB : B ≤ w.heap.size) : (w.alloc (.cells #[] 121)).ownsRow B 121 4 (.slice (some ⟨w.heap.size, 0, none⟩) 0 0) 0 [] :=
  ⟨rfl, .inr ⟨w.heap.size, 0, #[], rfl, hB, heap_alloc_new w _, Nat.le_refl _, by decide, rfl, rfl⟩⟩
section
variable {B gm : Nat} {lv : Value} {xs : List UInt8} {lg : List Acc} {w w' : World}
variable {w w' : World}
theorem adz (b j : Nat) : (⟨b, 0, none⟩ : Addr).add j = ⟨b, j, none⟩ := by unfold Addr.add; split <;> simp_all
theorem adb (a : Addr) (n : Nat) : (a.add n).block = a.block := by unfold Addr.add; split <;> rfl
theorem logCells_one (l : List Acc) : ∀ u ∈ logCells l, u.oneCell' = true := by
  intro u hu
  unfold logCells at hu
  rw [List.mem_flatMap] at hu
  obtain ⟨a, _, h⟩ := hu
  exact acc_one a u h
theorem Reads.same {w w' : World} {B B' size n : Nat} {A : Option Addr} {xs : List Value} (h : Reads w B size A n xs) (hb : ∀ ad, A = some ad → w'.heap[ad.block]? = w.heap[ad.block]?) (hB : B ≤ B') : Reads w' B' size A n xs := by
  refine ⟨h.1, fun hn => ?_⟩
  obtain ⟨ad, e, hlt, hc⟩ := h.2 hn
  exact ⟨ad, e, Nat.lt_of_lt_of_le hlt hB, fun j u hu => (World.cell?_of_block (w := w) (a := ad.add j) (by rw [adb]; exact hb ad e)).trans (hc j u hu)⟩

/-- in note's region: the empty slice made (o1), the new access laid (o15) -/
structure NS (w : World) (news : List Value) (o1 o15 : Option Nat) (W : World) : Prop where
  old : Below w.heap.size w W
  e1 : ∀ b, o1 = some b → W.ownsRow w.heap.size 121 4 (.slice (some ⟨b, 0, none⟩) 0 0) 0 []
  e15 : ∀ b, o15 = some b → w.heap.size ≤ b ∧ Reads W W.heap.size 4 (some ⟨b, 0, none⟩) 1 news
  ne : ∀ b b', o1 = some b → o15 = some b' → b ≠ b'
theorem NS.start (w : World) (news : List Value) : NS w news none none w.drew := ⟨(Below.refl _ w).drew, fun _ h => (nomatch h), fun _ h => (nomatch h), fun _ _ h => (nomatch h)⟩
theorem NS.lt15 {news : List Value} {o1 : Option Nat} {b : Nat} {W : World} (h : NS w news o1 (some b) W) : b < W.heap.size := by
  obtain ⟨ad, e, hlt, _⟩ := (h.e15 b rfl).2.2 (by decide)
  injection e with e
  subst e
  exact hlt
theorem NS.made {news : List Value} {o15 : Option Nat} {W : World} (h : NS w news none o15 W) : NS w news (some W.heap.size) o15 (W.alloc (.cells #[] 121)) := by
  have hz := h.old.size
  refine ⟨h.old.alloc hz _, fun b e => ?_, fun b e => ?_, fun b b' e e' => ?_⟩
  · injection e with e; subst e; exact empty_own W _ hz
  · subst e
    exact ⟨(h.e15 b rfl).1, (h.e15 b rfl).2.same (fun ad e => Below.heap_alloc _ _ _ (by injection e with e; subst e; exact h.lt15)) (by simp)⟩
  · injection e with e; subst e; subst e'; have := h.lt15; omega
theorem NS.laid {news : List Value} {o1 : Option Nat} {W : World} (h : NS w news o1 none W) (hn : news.length = 4) : NS w news o1 (some W.heap.size) (W.alloc (.cells news.toArray 121)) := by
  have hz := h.old.size
  refine ⟨h.old.alloc hz _, fun b e => ?_, fun b e => ?_, fun b b' e e' => ?_⟩
  · exact own_same (h.e1 b e) (fun k hk => Below.heap_alloc _ _ _ ((h.e1 b e).lt k hk).2)
  · injection e with e
    subst e
    refine ⟨hz, hn, fun _ => ⟨_, rfl, by simp, fun j u hu => ?_⟩⟩
    have hB : Blk (W.alloc (.cells news.toArray 121)) W.heap.size 121 news.toArray := heap_alloc_new W _
    have := hB.cell j
    rw [show (⟨W.heap.size, 0, none⟩ : Addr).add j = ⟨W.heap.size, j, none⟩ from adz _ _]
    rw [this]
    simpa using hu
  · injection e' with e'; subst e'; have := ((h.e1 b e).lt b rfl).2; omega
/-- .. the log copied to it -/
structure N6 (w : World) (lg : List Acc) (news : List Value) (o15 : Option Nat) (v : Value) (W : World) : Prop where
  old : Below w.heap.size w W
  own : W.ownsRow w.heap.size 121 4 v lg.length (logCells lg)
  e15 : ∀ b, o15 = some b → w.heap.size ≤ b ∧ Reads W W.heap.size 4 (some ⟨b, 0, none⟩) 1 news
  ne : ∀ b', o15 = some b' → v.ownBlock ≠ some b'
theorem Reads.blk {w : World} {size n : Nat} {A : Option Addr} {xs : List Value} {ad : Addr} {B e c : Nat} (h : w.ownsRow B e size (.slice A n c) n xs) (e1 : A = some ad) : ad.block < w.heap.size := by
  subst e1
  rcases h.2 with ⟨h1, _⟩ | ⟨g, cap, cur, h1, _, hh, _⟩
  · cases h1
  · injection h1 with h1
    injection h1 with h1
    subst h1
    exact (h.lt g rfl).2
theorem NS.copied {news : List Value} {o15 : Option Nat} {b : Nat} {W W' : World} {lg : List Acc} {v : Value} (h : NS w news (some b) o15 W) (ho : W'.ownsRow w.heap.size 121 4 v (0 + lg.length) ([] ++ logCells lg)) (hg : W.grownBy W' (some b))
    (hat : v.ownBlock = some b ∨ v.ownBlock = some W.heap.size) : N6 w lg news o15 v W' := by
  have hz := h.old.size
  have hb1 := (h.e1 b rfl).lt b rfl
  refine ⟨h.old.grown hg hz (fun k e => by injection e with e; subst e; exact hb1.1), by simpa using ho, fun b' e => ?_, fun b' e => ?_⟩
  · subst e
    refine ⟨(h.e15 b' rfl).1, (h.e15 b' rfl).2.same (fun ad e => ?_) hg.size⟩
    injection e with e
    subst e
    exact hg.block b' h.lt15 (fun e => h.ne b b' rfl rfl (by injection e with e; exact e.symm))
  · subst e
    have := h.lt15
    rcases hat with e | e <;> rw [e] <;> intro e <;> injection e with e
    · exact h.ne b b' rfl rfl e
    · omega
theorem N6.laid {news : List Value} {W : World} {lg : List Acc} {v : Value} (h : N6 w lg news none v W) (hn : news.length = 4) : N6 w lg news (some W.heap.size) v (W.alloc (.cells news.toArray 121)) := by
  have hz := h.old.size
  refine ⟨h.old.alloc hz _, own_same h.own (fun k hk => Below.heap_alloc _ _ _ (h.own.lt k hk).2), fun b e => ?_, fun b e => ?_⟩
  · injection e with e
    subst e
    refine ⟨hz, hn, fun _ => ⟨_, rfl, by simp, fun j u hu => ?_⟩⟩
    have hB : Blk (W.alloc (.cells news.toArray 121)) W.heap.size 121 news.toArray := heap_alloc_new W _
    have := hB.cell j
    rw [show (⟨W.heap.size, 0, none⟩ : Addr).add j = ⟨W.heap.size, j, none⟩ from adz _ _]
    rw [this]
    simpa using hu
  · injection e with e; subst e
    intro e
    have := (h.own.lt _ e).2
    omega
/-- .. and the access put behind it -/
structure N16 (w : World) (lg : List Acc) (v : Value) (W : World) : Prop where
  old : Below w.heap.size w W
  own : W.ownsRow w.heap.size 121 4 v lg.length (logCells lg)
theorem N6.put {x : Acc} {b : Nat} {W W' : World} {lg : List Acc} {v v' : Value} (h : N6 w lg (accCells x) (some b) v W) (ho : W'.ownsRow w.heap.size 121 4 v' (lg.length + 1) (logCells lg ++ accCells x)) (hg : W.grownBy W' v.ownBlock) : N16 w (lg ++ [x]) v' W' :=
  ⟨h.old.grown hg h.old.size (fun k e => (h.own.lt k e).1), by rw [logCells_append, List.length_append]; simpa [logCells] using ho⟩
theorem N16.noted {B gm : Nat} {lv : Value} {xs : List UInt8} {lg lg' : List Acc} {v : Value} {W : World} (h : N16 w lg' v W) (hM : Mr B gm lv xs lg w) (hlg : lg' ≠ []) : Rnoted B gm lv xs lg' w (W.setCell ⟨gm, 2, none⟩ v) := by
  obtain ⟨ag, hb⟩ := hM.blk
  have hlt := hM.lt
  have hB := hM.hB
  have hz := h.old.size
  have ho : (W.setCell ⟨gm, 2, none⟩ v).ownsRow w.heap.size 121 4 v lg'.length (logCells lg') := ownsRow_setCell_below h.own hlt v
  refine ⟨v, ⟨hM.hB, ⟨ag, (hb.same (h.old.block gm hlt)).put 2 v⟩, own_base ho (by omega), fun e => absurd e hlg, hM.len⟩, ⟨h.old.os, h.old.tape, h.old.output, by simpa [World.setCell] using hz, fun k hk hne => (Below.heap_setCell _ _ _ _ hne).trans (h.old.block k hk)⟩, fun k hk => .inr (ho.lt k hk).1⟩
theorem N16.ends {B gm : Nat} {lv : Value} {xs : List UInt8} {lg lg' : List Acc} {v : Value} {W : World} {ag : Int} (h : N16 w lg' v W) (hM : Mr B gm lv xs lg w) (hag : w.cell? ⟨gm, 1, none⟩ = some (.int .i64 ag)) :
    (∃ A cap, v = .slice A lg'.length cap) ∧ (W.setCell ⟨gm, 2, none⟩ v).cell? ⟨gm, 2, none⟩ = some v ∧ (W.setCell ⟨gm, 2, none⟩ v).cell? ⟨gm, 1, none⟩ = some (.int .i64 ag) := by
  obtain ⟨ag', hb⟩ := hM.blk
  have e : ag' = ag := by have := hb.cell 1; rw [hag] at this; injection this with this; injection this with _ this; exact this.symm
  subst e
  have hp := (hb.same (h.old.block gm hM.lt)).put 2 v
  exact ⟨own_form h.own, hp.cell 2, hp.cell 1⟩
section
variable {B gm : Nat} {lv : Value} {xs : List UInt8} {lg : List Acc}
set_option maxRecDepth 100000 in
set_option maxHeartbeats 40000000 in
theorem rnote_some (h : Mr B gm lv xs lg w) (hl : lg.length ≤ 4000) (a n : Int) (wr : Bool) (hn : 0 < n) :
    Calls Tryz.prog 42 #[.pointer (some ⟨gm, 0, none⟩), .int .i64 a, .int .i64 n, .bool wr] w fun e w' => e = .returned (.tuple #[]) ∧ ∃ x, Rnoted B gm lv xs (lg ++ [x]) w w' := by
  have HM := Lib.hid h
  have HO := Lib.hid h.log
  obtain ⟨A, cap, rfl⟩ := own_form h.log
  have HR := Lib.hid (Reads.of_own h.log)
  obtain ⟨ag, hb⟩ := h.blk
  have HB := Lib.hid hb
  have hc1 : w.cell? ⟨gm, 1, none⟩ = some (.int .i64 ag) := hb.cell 1
  have HL := Lib.hid h.lt
  have HLG := Lib.hid hl
  obtain ⟨x, hx⟩ : ∃ x : Acc, x = ⟨ag, a, n, wr⟩ := ⟨_, rfl⟩
  have hx4 : accCells x = [.int .i64 ag, .int .i64 a, .int .i64 n, .bool wr] := by rw [hx]; rfl
  have HX := Lib.hid hx4
  clear hx4 hx h hb hl
  obtain ⟨i0, hi, hz0, hz1, hz2⟩ := info_parts Tryz.info121
  have HI := Lib.hid hi
  have HZ0 := Lib.hid hz0
  have HZ1 := Lib.hid hz1
  have HZ2 := Lib.hid hz2
  clear hi hz0 hz1 hz2
  go_enter Tryz.func42, Tryz.ntmps42
  go_wp2_with fail
  refine wp_region_held_drew (S := fun W => W.cell? ⟨gm, 1, none⟩ = some (.int .i64 ag)) (by kernel_rfl) hc1 (fun hHeld => ?_)
  refine wpAnyH_take (i := 0) (v := .pointer (some ⟨gm, 0, none⟩)) (by rfl) (by kernel_rfl) (by kernel_rfl) (by kernel_rfl) (by intro _ _ _ h; exact h) (Or.inl ⟨by rfl, ?_⟩) (by assumption) ?_
  · intro W hSw
    try dsimp only at hSw
    go_simp
    try with_reducible rfl
  simp only [Act.put, List.setIfInBounds_toArray]
  refine wpAnyH_take (i := 2) (v := .pointer (some ⟨gm, 0, none⟩)) (by rfl) (by kernel_rfl) (by kernel_rfl) (by kernel_rfl) (by intro _ _ _ h; exact h) (Or.inl ⟨by rfl, ?_⟩) (by assumption) ?_
  · intro W hSw
    try dsimp only at hSw
    go_simp
    try with_reducible rfl
  simp only [Act.put]
  refine wpAnyH_take (i := 3) (v := .pointer (some ⟨gm, 0, none⟩)) (by rfl) (by kernel_rfl) (by kernel_rfl) (by kernel_rfl) (by intro _ _ _ h; exact h) (Or.inl ⟨by rfl, ?_⟩) (by assumption) ?_
  · intro W hSw
    try dsimp only at hSw
    go_simp
    try with_reducible rfl
  simp only [Act.put]
  refine wpAnyH_take (i := 4) (v := .pointer (some ⟨gm, 2, none⟩)) (by rfl) (by kernel_rfl) (by kernel_rfl) (by kernel_rfl) (by intro _ _ _ h; exact h) (Or.inl ⟨by rfl, ?_⟩) (by assumption) ?_
  · intro W hSw
    try dsimp only at hSw
    go_simp
    try with_reducible rfl
  simp only [Act.put]
  refine wpAnyH_take (i := 7) (v := .pointer (some ⟨gm, 0, none⟩)) (by rfl) (by kernel_rfl) (by kernel_rfl) (by kernel_rfl) (by intro _ _ _ h; exact h) (Or.inl ⟨by rfl, ?_⟩) (by assumption) ?_
  · intro W hSw
    try dsimp only at hSw
    go_simp
    try with_reducible rfl
  simp only [Act.put]
  refine wpAnyH_take (i := 8) (v := .pointer (some ⟨gm, 0, none⟩)) (by rfl) (by kernel_rfl) (by kernel_rfl) (by kernel_rfl) (by intro _ _ _ h; exact h) (Or.inl ⟨by rfl, ?_⟩) (by assumption) ?_
  · intro W hSw
    try dsimp only at hSw
    go_simp
    try with_reducible rfl
  simp only [Act.put]
  refine wpAnyH_take (i := 9) (v := .pointer (some ⟨gm, 1, none⟩)) (by rfl) (by kernel_rfl) (by kernel_rfl) (by kernel_rfl) (by intro _ _ _ h; exact h) (Or.inl ⟨by rfl, ?_⟩) (by assumption) ?_
  · intro W hSw
    try dsimp only at hSw
    go_simp
    try with_reducible rfl
  simp only [Act.put]
  refine wpAnyH_take (i := 10) (v := .int .i64 ag) (by rfl) (by kernel_rfl) (by kernel_rfl) (by kernel_rfl) (by intro _ _ _ h; exact h) (Or.inl ⟨by rfl, ?_⟩) (by assumption) ?_
  · intro W hSw
    try dsimp only at hSw
    go_simp
    try with_reducible rfl
  simp only [Act.put]
  refine wpAnyH_take (i := 11) (v := .int .i64 a) (by rfl) (by kernel_rfl) (by kernel_rfl) (by kernel_rfl) (by intro _ _ _ h; exact h) (Or.inl ⟨by rfl, ?_⟩) (by assumption) ?_
  · intro W hSw
    try dsimp only at hSw
    go_simp
    try with_reducible rfl
  simp only [Act.put]
  refine wpAnyH_take (i := 12) (v := .int .i64 n) (by rfl) (by kernel_rfl) (by kernel_rfl) (by kernel_rfl) (by intro _ _ _ h; exact h) (Or.inl ⟨by rfl, ?_⟩) (by assumption) ?_
  · intro W hSw
    try dsimp only at hSw
    go_simp
    try with_reducible rfl
  simp only [Act.put]
  refine wpAnyH_take (i := 13) (v := .bool wr) (by rfl) (by kernel_rfl) (by kernel_rfl) (by kernel_rfl) (by intro _ _ _ h; exact h) (Or.inl ⟨by rfl, ?_⟩) (by assumption) ?_
  · intro W hSw
    try dsimp only at hSw
    go_simp
    try with_reducible rfl
  simp only [Act.put]
  refine wpAnyH_take (i := 14) (v := .agg #[.int .i64 ag, .int .i64 a, .int .i64 n, .bool wr]) (by rfl) (by kernel_rfl) (by kernel_rfl) (by kernel_rfl) (by intro _ _ _ h; exact h) (Or.inl ⟨by rfl, ?_⟩) (by assumption) ?_
  · intro W hSw
    try dsimp only at hSw
    go_simp
    try with_reducible rfl
  simp only [Act.put]
  have T : NS w [.int .i64 ag, .int .i64 a, .int .i64 n, .bool wr] none none w.drew := NS.start w _
  have T := Lib.hid T
  refine wpAnyH_ready (rs := [1, 5, 15]) (by kernel_rfl) (by simp) ?_
  refine AllReadyH.cons (by rfl) (fun K hK => ?_) (AllReadyH.cons (by rfl) (fun K hK => ?_) (AllReadyH.cons (by rfl) (fun K hK => ?_) (AllReadyH.nil)))
  · go_simp
    obtain ⟨W1, hW⟩ : ∃ WW, (w.alloc (.cells #[] 121)).drew = WW := ⟨_, rfl⟩
    rw [hW]
    have T : NS w [.int .i64 ag, .int .i64 a, .int .i64 n, .bool wr] (some w.heap.size) (none) W1 := by rw [← hW]; exact T.out.made
    have T := Lib.hid T
    clear hW
    have HAG := (World.cell?_of_block (a := ⟨gm, 1, none⟩) (T.out.old.block gm HL.out)).trans (HB.out.cell 1)
    refine hK.out _ _ HAG (fun hHeld => ?_)
    clear hK K HAG
    refine wpAnyH_ready (rs := [5, 15]) (by kernel_rfl) (by simp) ?_
    refine AllReadyH.cons (by rfl) (fun K hK => ?_) (AllReadyH.cons (by rfl) (fun K hK => ?_) (AllReadyH.nil))
    · have hL := (World.cell?_of_block (a := ⟨gm, 2, none⟩) (T.out.old.block gm HL.out)).trans (HB.out.cell 2)
      go_simp
      clear hL
      have HAG := (World.cell?_of_block (a := ⟨gm, 1, none⟩) (T.out.old.block gm HL.out)).trans (HB.out.cell 1)
      refine hK.out _ _ HAG (fun hHeld => ?_)
      clear hK K HAG
      refine wpAnyH_ready (rs := [6, 15]) (by kernel_rfl) (by simp) ?_
      refine AllReadyH.cons (by rfl) (fun K hK => ?_) (AllReadyH.cons (by rfl) (fun K hK => ?_) (AllReadyH.nil))
      · have hz := T.out.old.size
        have hl2 := HLG.out
        refine step_append_any W1 (by rfl) (.tmp 11) (.tmp 15) 71 (by rfl) w.heap.size 121 i0 _ 4 32 Tryz.underlying71 HI.out HZ0.out HZ1.out HZ2.out rfl (by decide) (.slice (some ⟨w.heap.size, 0, none⟩) 0 0) 0 [] (by rfl) (T.out.e1 _ rfl) w.heap.size A lg.length cap (logCells lg) (by rfl) (HR.out.same (fun ad e => T.out.old.block _ (Reads.blk HO.out e)) (Nat.le_refl _)) (logCells_one lg) (by unfold maxLen; omega) (by omega) hz ?_
        intro v6 W2 hown hgrow hat
        have T : N6 w lg [.int .i64 ag, .int .i64 a, .int .i64 n, .bool wr] (none) v6 W2 := T.out.copied hown hgrow hat
        have T := Lib.hid T
        clear hown hgrow hat hz hl2
        simp only [Act.put]
        have HAG := (World.cell?_of_block (a := ⟨gm, 1, none⟩) (T.out.old.block gm HL.out)).trans (HB.out.cell 1)
        refine hK.out _ _ HAG (fun hHeld => ?_)
        clear hK K HAG
        refine wpAnyH_ready (rs := [15]) (by kernel_rfl) (by simp) ?_
        refine AllReadyH.cons (by rfl) (fun K hK => ?_) (AllReadyH.nil)
        · go_simp
          obtain ⟨W3, hW⟩ : ∃ WW, W2.alloc (.cells #[.int .i64 ag, .int .i64 a, .int .i64 n, .bool wr] 121) = WW := ⟨_, rfl⟩
          rw [hW]
          have T : N6 w lg [.int .i64 ag, .int .i64 a, .int .i64 n, .bool wr] (some W2.heap.size) v6 W3 := by rw [← hW]; exact T.out.laid (by rfl)
          have T := Lib.hid T
          clear hW
          have HAG := (World.cell?_of_block (a := ⟨gm, 1, none⟩) (T.out.old.block gm HL.out)).trans (HB.out.cell 1)
          refine hK.out _ _ HAG (fun hHeld => ?_)
          clear hK K HAG
          refine wpAnyH_ready (rs := [16]) (by kernel_rfl) (by simp) ?_
          refine AllReadyH.cons (by rfl) (fun K hK => ?_) (AllReadyH.nil)
          · obtain ⟨A6, cap6, hv6⟩ := own_form T.out.own
            have hz := T.out.old.size
            have hl2 := HLG.out
            refine step_append_any W3 (by rfl) (.tmp 16) (.tmp 25) 71 (by rfl) w.heap.size 121 i0 _ 4 32 Tryz.underlying71 HI.out HZ0.out HZ1.out HZ2.out rfl (by decide) v6 lg.length (logCells lg) (by rfl) T.out.own W3.heap.size (some ⟨W2.heap.size, 0, none⟩) 1 1 [.int .i64 ag, .int .i64 a, .int .i64 n, .bool wr] (by rfl) (T.out.e15 _ rfl).2 (by rw [← HX.out]; exact acc_one x) (by unfold maxLen; omega) (by omega) hz ?_
            intro v16 W4 hown hgrow _
            have T : N16 w (lg ++ [x]) v16 W4 := by rw [← HX.out] at hown; have T1 := T.out; rw [← HX.out] at T1; exact T1.put hown hgrow
            have T := Lib.hid T
            clear hown hgrow hz hl2 hv6
            simp only [Act.put]
            have HAG := (World.cell?_of_block (a := ⟨gm, 1, none⟩) (T.out.old.block gm HL.out)).trans (HB.out.cell 1)
            refine hK.out _ _ HAG (fun hHeld => ?_)
            clear hK K HAG
            refine wpAnyH_take (i := 17) (v := .pointer (some ⟨gm, 0, none⟩)) (by rfl) (by kernel_rfl) (by kernel_rfl) (by kernel_rfl) (by intro _ _ _ h; exact h) (Or.inl ⟨by rfl, ?_⟩) (by assumption) ?_
            · intro W hSw
              try dsimp only at hSw
              go_simp
              try with_reducible rfl
            simp only [Act.put]
            refine wpAnyH_take (i := 18) (v := .pointer (some ⟨gm, 2, none⟩)) (by rfl) (by kernel_rfl) (by kernel_rfl) (by kernel_rfl) (by intro _ _ _ h; exact h) (Or.inl ⟨by rfl, ?_⟩) (by assumption) ?_
            · intro W hSw
              try dsimp only at hSw
              go_simp
              try with_reducible rfl
            simp only [Act.put]
            refine wpAnyH_ready (rs := [19]) (by kernel_rfl) (by simp) ?_
            refine AllReadyH.cons (by rfl) (fun K hK => ?_) AllReadyH.nil
            have hf := (World.frozen?_of_block (a := ⟨gm, 2, none⟩) (T.out.old.block gm HL.out)).trans (HB.out.frozen 2)
            obtain ⟨A16, cap16, hv⟩ := own_form T.out.own
            rw [show (lg ++ [x]).length = lg.length + 1 from by simp] at hv
            subst hv
            have HN := T.out.noted HM.out (by simp)
            have HE := T.out.ends HM.out (HB.out.cell 1)
            have HN := Lib.hid HN
            have HE := Lib.hid HE
            have hL := (World.cell?_of_block (a := ⟨gm, 2, none⟩) (T.out.old.block gm HL.out)).trans (HB.out.cell 2)
            clear T
            go_simp
            clear hf hL
            refine hK.out _ _ HE.out.2.2 (fun hHeld => ?_)
            clear hK K
            refine wpAnyH_done (by kernel_rfl) ?_ _
            have HE2 := HE.out.2.1
            clear HE
            have h41 : ¬ 4096 < lg.length + 1 := by have := HLG.out; omega
            go_wp2_with fail
            first | go_end0 | (refine bodyPost_ret (results_none rfl _ _ _) rfl ?_)
            exact ⟨rfl, _, HN.out⟩
      · go_simp
        obtain ⟨W2, hW⟩ : ∃ WW, W1.alloc (.cells #[.int .i64 ag, .int .i64 a, .int .i64 n, .bool wr] 121) = WW := ⟨_, rfl⟩
        rw [hW]
        have T : NS w [.int .i64 ag, .int .i64 a, .int .i64 n, .bool wr] (some w.heap.size) (some W1.heap.size) W2 := by rw [← hW]; exact T.out.laid (by rfl)
        have T := Lib.hid T
        clear hW
        have HAG := (World.cell?_of_block (a := ⟨gm, 1, none⟩) (T.out.old.block gm HL.out)).trans (HB.out.cell 1)
        refine hK.out _ _ HAG (fun hHeld => ?_)
        clear hK K HAG
        refine wpAnyH_ready (rs := [6]) (by kernel_rfl) (by simp) ?_
        refine AllReadyH.cons (by rfl) (fun K hK => ?_) (AllReadyH.nil)
        · have hz := T.out.old.size
          have hl2 := HLG.out
          refine step_append_any W2 (by rfl) (.tmp 11) (.tmp 15) 71 (by rfl) w.heap.size 121 i0 _ 4 32 Tryz.underlying71 HI.out HZ0.out HZ1.out HZ2.out rfl (by decide) (.slice (some ⟨w.heap.size, 0, none⟩) 0 0) 0 [] (by rfl) (T.out.e1 _ rfl) w.heap.size A lg.length cap (logCells lg) (by rfl) (HR.out.same (fun ad e => T.out.old.block _ (Reads.blk HO.out e)) (Nat.le_refl _)) (logCells_one lg) (by unfold maxLen; omega) (by omega) hz ?_
          intro v6 W3 hown hgrow hat
          have T : N6 w lg [.int .i64 ag, .int .i64 a, .int .i64 n, .bool wr] (some W1.heap.size) v6 W3 := T.out.copied hown hgrow hat
          have T := Lib.hid T
          clear hown hgrow hat hz hl2
          simp only [Act.put]
          have HAG := (World.cell?_of_block (a := ⟨gm, 1, none⟩) (T.out.old.block gm HL.out)).trans (HB.out.cell 1)
          refine hK.out _ _ HAG (fun hHeld => ?_)
          clear hK K HAG
          refine wpAnyH_ready (rs := [16]) (by kernel_rfl) (by simp) ?_
          refine AllReadyH.cons (by rfl) (fun K hK => ?_) (AllReadyH.nil)
          · obtain ⟨A6, cap6, hv6⟩ := own_form T.out.own
            have hz := T.out.old.size
            have hl2 := HLG.out
            refine step_append_any W3 (by rfl) (.tmp 16) (.tmp 25) 71 (by rfl) w.heap.size 121 i0 _ 4 32 Tryz.underlying71 HI.out HZ0.out HZ1.out HZ2.out rfl (by decide) v6 lg.length (logCells lg) (by rfl) T.out.own W3.heap.size (some ⟨W1.heap.size, 0, none⟩) 1 1 [.int .i64 ag, .int .i64 a, .int .i64 n, .bool wr] (by rfl) (T.out.e15 _ rfl).2 (by rw [← HX.out]; exact acc_one x) (by unfold maxLen; omega) (by omega) hz ?_
            intro v16 W4 hown hgrow _
            have T : N16 w (lg ++ [x]) v16 W4 := by rw [← HX.out] at hown; have T1 := T.out; rw [← HX.out] at T1; exact T1.put hown hgrow
            have T := Lib.hid T
            clear hown hgrow hz hl2 hv6
            simp only [Act.put]
            have HAG := (World.cell?_of_block (a := ⟨gm, 1, none⟩) (T.out.old.block gm HL.out)).trans (HB.out.cell 1)
            refine hK.out _ _ HAG (fun hHeld => ?_)
            clear hK K HAG
            refine wpAnyH_take (i := 17) (v := .pointer (some ⟨gm, 0, none⟩)) (by rfl) (by kernel_rfl) (by kernel_rfl) (by kernel_rfl) (by intro _ _ _ h; exact h) (Or.inl ⟨by rfl, ?_⟩) (by assumption) ?_
            · intro W hSw
              try dsimp only at hSw
              go_simp
              try with_reducible rfl
            simp only [Act.put]
            refine wpAnyH_take (i := 18) (v := .pointer (some ⟨gm, 2, none⟩)) (by rfl) (by kernel_rfl) (by kernel_rfl) (by kernel_rfl) (by intro _ _ _ h; exact h) (Or.inl ⟨by rfl, ?_⟩) (by assumption) ?_
            · intro W hSw
              try dsimp only at hSw
              go_simp
              try with_reducible rfl
            simp only [Act.put]
            refine wpAnyH_ready (rs := [19]) (by kernel_rfl) (by simp) ?_
            refine AllReadyH.cons (by rfl) (fun K hK => ?_) AllReadyH.nil
            have hf := (World.frozen?_of_block (a := ⟨gm, 2, none⟩) (T.out.old.block gm HL.out)).trans (HB.out.frozen 2)
            obtain ⟨A16, cap16, hv⟩ := own_form T.out.own
            rw [show (lg ++ [x]).length = lg.length + 1 from by simp] at hv
            subst hv
            have HN := T.out.noted HM.out (by simp)
            have HE := T.out.ends HM.out (HB.out.cell 1)
            have HN := Lib.hid HN
            have HE := Lib.hid HE
            have hL := (World.cell?_of_block (a := ⟨gm, 2, none⟩) (T.out.old.block gm HL.out)).trans (HB.out.cell 2)
            clear T
            go_simp
            clear hf hL
            refine hK.out _ _ HE.out.2.2 (fun hHeld => ?_)
            clear hK K
            refine wpAnyH_done (by kernel_rfl) ?_ _
            have HE2 := HE.out.2.1
            clear HE
            have h41 : ¬ 4096 < lg.length + 1 := by have := HLG.out; omega
            go_wp2_with fail
            first | go_end0 | (refine bodyPost_ret (results_none rfl _ _ _) rfl ?_)
            exact ⟨rfl, _, HN.out⟩
    · go_simp
      obtain ⟨W2, hW⟩ : ∃ WW, W1.alloc (.cells #[.int .i64 ag, .int .i64 a, .int .i64 n, .bool wr] 121) = WW := ⟨_, rfl⟩
      rw [hW]
      have T : NS w [.int .i64 ag, .int .i64 a, .int .i64 n, .bool wr] (some w.heap.size) (some W1.heap.size) W2 := by rw [← hW]; exact T.out.laid (by rfl)
      have T := Lib.hid T
      clear hW
      have HAG := (World.cell?_of_block (a := ⟨gm, 1, none⟩) (T.out.old.block gm HL.out)).trans (HB.out.cell 1)
      refine hK.out _ _ HAG (fun hHeld => ?_)
      clear hK K HAG
      refine wpAnyH_ready (rs := [5]) (by kernel_rfl) (by simp) ?_
      refine AllReadyH.cons (by rfl) (fun K hK => ?_) (AllReadyH.nil)
      · have hL := (World.cell?_of_block (a := ⟨gm, 2, none⟩) (T.out.old.block gm HL.out)).trans (HB.out.cell 2)
        go_simp
        clear hL
        have HAG := (World.cell?_of_block (a := ⟨gm, 1, none⟩) (T.out.old.block gm HL.out)).trans (HB.out.cell 1)
        refine hK.out _ _ HAG (fun hHeld => ?_)
        clear hK K HAG
        refine wpAnyH_ready (rs := [6]) (by kernel_rfl) (by simp) ?_
        refine AllReadyH.cons (by rfl) (fun K hK => ?_) (AllReadyH.nil)
        · have hz := T.out.old.size
          have hl2 := HLG.out
          refine step_append_any W2 (by rfl) (.tmp 11) (.tmp 15) 71 (by rfl) w.heap.size 121 i0 _ 4 32 Tryz.underlying71 HI.out HZ0.out HZ1.out HZ2.out rfl (by decide) (.slice (some ⟨w.heap.size, 0, none⟩) 0 0) 0 [] (by rfl) (T.out.e1 _ rfl) w.heap.size A lg.length cap (logCells lg) (by rfl) (HR.out.same (fun ad e => T.out.old.block _ (Reads.blk HO.out e)) (Nat.le_refl _)) (logCells_one lg) (by unfold maxLen; omega) (by omega) hz ?_
          intro v6 W3 hown hgrow hat
          have T : N6 w lg [.int .i64 ag, .int .i64 a, .int .i64 n, .bool wr] (some W1.heap.size) v6 W3 := T.out.copied hown hgrow hat
          have T := Lib.hid T
          clear hown hgrow hat hz hl2
          simp only [Act.put]
          have HAG := (World.cell?_of_block (a := ⟨gm, 1, none⟩) (T.out.old.block gm HL.out)).trans (HB.out.cell 1)
          refine hK.out _ _ HAG (fun hHeld => ?_)
          clear hK K HAG
          refine wpAnyH_ready (rs := [16]) (by kernel_rfl) (by simp) ?_
          refine AllReadyH.cons (by rfl) (fun K hK => ?_) (AllReadyH.nil)
          · obtain ⟨A6, cap6, hv6⟩ := own_form T.out.own
            have hz := T.out.old.size
            have hl2 := HLG.out
            refine step_append_any W3 (by rfl) (.tmp 16) (.tmp 25) 71 (by rfl) w.heap.size 121 i0 _ 4 32 Tryz.underlying71 HI.out HZ0.out HZ1.out HZ2.out rfl (by decide) v6 lg.length (logCells lg) (by rfl) T.out.own W3.heap.size (some ⟨W1.heap.size, 0, none⟩) 1 1 [.int .i64 ag, .int .i64 a, .int .i64 n, .bool wr] (by rfl) (T.out.e15 _ rfl).2 (by rw [← HX.out]; exact acc_one x) (by unfold maxLen; omega) (by omega) hz ?_
            intro v16 W4 hown hgrow _
            have T : N16 w (lg ++ [x]) v16 W4 := by rw [← HX.out] at hown; have T1 := T.out; rw [← HX.out] at T1; exact T1.put hown hgrow
            have T := Lib.hid T
            clear hown hgrow hz hl2 hv6
            simp only [Act.put]
            have HAG := (World.cell?_of_block (a := ⟨gm, 1, none⟩) (T.out.old.block gm HL.out)).trans (HB.out.cell 1)
            refine hK.out _ _ HAG (fun hHeld => ?_)
            clear hK K HAG
            refine wpAnyH_take (i := 17) (v := .pointer (some ⟨gm, 0, none⟩)) (by rfl) (by kernel_rfl) (by kernel_rfl) (by kernel_rfl) (by intro _ _ _ h; exact h) (Or.inl ⟨by rfl, ?_⟩) (by assumption) ?_
            · intro W hSw
              try dsimp only at hSw
              go_simp
              try with_reducible rfl
            simp only [Act.put]
            refine wpAnyH_take (i := 18) (v := .pointer (some ⟨gm, 2, none⟩)) (by rfl) (by kernel_rfl) (by kernel_rfl) (by kernel_rfl) (by intro _ _ _ h; exact h) (Or.inl ⟨by rfl, ?_⟩) (by assumption) ?_
            · intro W hSw
              try dsimp only at hSw
              go_simp
              try with_reducible rfl
            simp only [Act.put]
            refine wpAnyH_ready (rs := [19]) (by kernel_rfl) (by simp) ?_
            refine AllReadyH.cons (by rfl) (fun K hK => ?_) AllReadyH.nil
            have hf := (World.frozen?_of_block (a := ⟨gm, 2, none⟩) (T.out.old.block gm HL.out)).trans (HB.out.frozen 2)
            obtain ⟨A16, cap16, hv⟩ := own_form T.out.own
            rw [show (lg ++ [x]).length = lg.length + 1 from by simp] at hv
            subst hv
            have HN := T.out.noted HM.out (by simp)
            have HE := T.out.ends HM.out (HB.out.cell 1)
            have HN := Lib.hid HN
            have HE := Lib.hid HE
            have hL := (World.cell?_of_block (a := ⟨gm, 2, none⟩) (T.out.old.block gm HL.out)).trans (HB.out.cell 2)
            clear T
            go_simp
            clear hf hL
            refine hK.out _ _ HE.out.2.2 (fun hHeld => ?_)
            clear hK K
            refine wpAnyH_done (by kernel_rfl) ?_ _
            have HE2 := HE.out.2.1
            clear HE
            have h41 : ¬ 4096 < lg.length + 1 := by have := HLG.out; omega
            go_wp2_with fail
            first | go_end0 | (refine bodyPost_ret (results_none rfl _ _ _) rfl ?_)
            exact ⟨rfl, _, HN.out⟩
  · have hL := (World.cell?_of_block (a := ⟨gm, 2, none⟩) (T.out.old.block gm HL.out)).trans (HB.out.cell 2)
    go_simp
    clear hL
    have HAG := (World.cell?_of_block (a := ⟨gm, 1, none⟩) (T.out.old.block gm HL.out)).trans (HB.out.cell 1)
    refine hK.out _ _ HAG (fun hHeld => ?_)
    clear hK K HAG
    refine wpAnyH_ready (rs := [1, 15]) (by kernel_rfl) (by simp) ?_
    refine AllReadyH.cons (by rfl) (fun K hK => ?_) (AllReadyH.cons (by rfl) (fun K hK => ?_) (AllReadyH.nil))
    · go_simp
      obtain ⟨W1, hW⟩ : ∃ WW, (w.alloc (.cells #[] 121)).drew = WW := ⟨_, rfl⟩
      rw [hW]
      have T : NS w [.int .i64 ag, .int .i64 a, .int .i64 n, .bool wr] (some w.heap.size) (none) W1 := by rw [← hW]; exact T.out.made
      have T := Lib.hid T
      clear hW
      have HAG := (World.cell?_of_block (a := ⟨gm, 1, none⟩) (T.out.old.block gm HL.out)).trans (HB.out.cell 1)
      refine hK.out _ _ HAG (fun hHeld => ?_)
      clear hK K HAG
      refine wpAnyH_ready (rs := [6, 15]) (by kernel_rfl) (by simp) ?_
      refine AllReadyH.cons (by rfl) (fun K hK => ?_) (AllReadyH.cons (by rfl) (fun K hK => ?_) (AllReadyH.nil))
      · have hz := T.out.old.size
        have hl2 := HLG.out
        refine step_append_any W1 (by rfl) (.tmp 11) (.tmp 15) 71 (by rfl) w.heap.size 121 i0 _ 4 32 Tryz.underlying71 HI.out HZ0.out HZ1.out HZ2.out rfl (by decide) (.slice (some ⟨w.heap.size, 0, none⟩) 0 0) 0 [] (by rfl) (T.out.e1 _ rfl) w.heap.size A lg.length cap (logCells lg) (by rfl) (HR.out.same (fun ad e => T.out.old.block _ (Reads.blk HO.out e)) (Nat.le_refl _)) (logCells_one lg) (by unfold maxLen; omega) (by omega) hz ?_
        intro v6 W2 hown hgrow hat
        have T : N6 w lg [.int .i64 ag, .int .i64 a, .int .i64 n, .bool wr] (none) v6 W2 := T.out.copied hown hgrow hat
        have T := Lib.hid T
        clear hown hgrow hat hz hl2
        simp only [Act.put]
        have HAG := (World.cell?_of_block (a := ⟨gm, 1, none⟩) (T.out.old.block gm HL.out)).trans (HB.out.cell 1)
        refine hK.out _ _ HAG (fun hHeld => ?_)
        clear hK K HAG
        refine wpAnyH_ready (rs := [15]) (by kernel_rfl) (by simp) ?_
        refine AllReadyH.cons (by rfl) (fun K hK => ?_) (AllReadyH.nil)
        · go_simp
          obtain ⟨W3, hW⟩ : ∃ WW, W2.alloc (.cells #[.int .i64 ag, .int .i64 a, .int .i64 n, .bool wr] 121) = WW := ⟨_, rfl⟩
          rw [hW]
          have T : N6 w lg [.int .i64 ag, .int .i64 a, .int .i64 n, .bool wr] (some W2.heap.size) v6 W3 := by rw [← hW]; exact T.out.laid (by rfl)
          have T := Lib.hid T
          clear hW
          have HAG := (World.cell?_of_block (a := ⟨gm, 1, none⟩) (T.out.old.block gm HL.out)).trans (HB.out.cell 1)
          refine hK.out _ _ HAG (fun hHeld => ?_)
          clear hK K HAG
          refine wpAnyH_ready (rs := [16]) (by kernel_rfl) (by simp) ?_
          refine AllReadyH.cons (by rfl) (fun K hK => ?_) (AllReadyH.nil)
          · obtain ⟨A6, cap6, hv6⟩ := own_form T.out.own
            have hz := T.out.old.size
            have hl2 := HLG.out
            refine step_append_any W3 (by rfl) (.tmp 16) (.tmp 25) 71 (by rfl) w.heap.size 121 i0 _ 4 32 Tryz.underlying71 HI.out HZ0.out HZ1.out HZ2.out rfl (by decide) v6 lg.length (logCells lg) (by rfl) T.out.own W3.heap.size (some ⟨W2.heap.size, 0, none⟩) 1 1 [.int .i64 ag, .int .i64 a, .int .i64 n, .bool wr] (by rfl) (T.out.e15 _ rfl).2 (by rw [← HX.out]; exact acc_one x) (by unfold maxLen; omega) (by omega) hz ?_
            intro v16 W4 hown hgrow _
            have T : N16 w (lg ++ [x]) v16 W4 := by rw [← HX.out] at hown; have T1 := T.out; rw [← HX.out] at T1; exact T1.put hown hgrow
            have T := Lib.hid T
            clear hown hgrow hz hl2 hv6
            simp only [Act.put]
            have HAG := (World.cell?_of_block (a := ⟨gm, 1, none⟩) (T.out.old.block gm HL.out)).trans (HB.out.cell 1)
            refine hK.out _ _ HAG (fun hHeld => ?_)
            clear hK K HAG
            refine wpAnyH_take (i := 17) (v := .pointer (some ⟨gm, 0, none⟩)) (by rfl) (by kernel_rfl) (by kernel_rfl) (by kernel_rfl) (by intro _ _ _ h; exact h) (Or.inl ⟨by rfl, ?_⟩) (by assumption) ?_
            · intro W hSw
              try dsimp only at hSw
              go_simp
              try with_reducible rfl
            simp only [Act.put]
            refine wpAnyH_take (i := 18) (v := .pointer (some ⟨gm, 2, none⟩)) (by rfl) (by kernel_rfl) (by kernel_rfl) (by kernel_rfl) (by intro _ _ _ h; exact h) (Or.inl ⟨by rfl, ?_⟩) (by assumption) ?_
            · intro W hSw
              try dsimp only at hSw
              go_simp
              try with_reducible rfl
            simp only [Act.put]
            refine wpAnyH_ready (rs := [19]) (by kernel_rfl) (by simp) ?_
            refine AllReadyH.cons (by rfl) (fun K hK => ?_) AllReadyH.nil
            have hf := (World.frozen?_of_block (a := ⟨gm, 2, none⟩) (T.out.old.block gm HL.out)).trans (HB.out.frozen 2)
            obtain ⟨A16, cap16, hv⟩ := own_form T.out.own
            rw [show (lg ++ [x]).length = lg.length + 1 from by simp] at hv
            subst hv
            have HN := T.out.noted HM.out (by simp)
            have HE := T.out.ends HM.out (HB.out.cell 1)
            have HN := Lib.hid HN
            have HE := Lib.hid HE
            have hL := (World.cell?_of_block (a := ⟨gm, 2, none⟩) (T.out.old.block gm HL.out)).trans (HB.out.cell 2)
            clear T
            go_simp
            clear hf hL
            refine hK.out _ _ HE.out.2.2 (fun hHeld => ?_)
            clear hK K
            refine wpAnyH_done (by kernel_rfl) ?_ _
            have HE2 := HE.out.2.1
            clear HE
            have h41 : ¬ 4096 < lg.length + 1 := by have := HLG.out; omega
            go_wp2_with fail
            first | go_end0 | (refine bodyPost_ret (results_none rfl _ _ _) rfl ?_)
            exact ⟨rfl, _, HN.out⟩
      · go_simp
        obtain ⟨W2, hW⟩ : ∃ WW, W1.alloc (.cells #[.int .i64 ag, .int .i64 a, .int .i64 n, .bool wr] 121) = WW := ⟨_, rfl⟩
        rw [hW]
        have T : NS w [.int .i64 ag, .int .i64 a, .int .i64 n, .bool wr] (some w.heap.size) (some W1.heap.size) W2 := by rw [← hW]; exact T.out.laid (by rfl)
        have T := Lib.hid T
        clear hW
        have HAG := (World.cell?_of_block (a := ⟨gm, 1, none⟩) (T.out.old.block gm HL.out)).trans (HB.out.cell 1)
        refine hK.out _ _ HAG (fun hHeld => ?_)
        clear hK K HAG
        refine wpAnyH_ready (rs := [6]) (by kernel_rfl) (by simp) ?_
        refine AllReadyH.cons (by rfl) (fun K hK => ?_) (AllReadyH.nil)
        · have hz := T.out.old.size
          have hl2 := HLG.out
          refine step_append_any W2 (by rfl) (.tmp 11) (.tmp 15) 71 (by rfl) w.heap.size 121 i0 _ 4 32 Tryz.underlying71 HI.out HZ0.out HZ1.out HZ2.out rfl (by decide) (.slice (some ⟨w.heap.size, 0, none⟩) 0 0) 0 [] (by rfl) (T.out.e1 _ rfl) w.heap.size A lg.length cap (logCells lg) (by rfl) (HR.out.same (fun ad e => T.out.old.block _ (Reads.blk HO.out e)) (Nat.le_refl _)) (logCells_one lg) (by unfold maxLen; omega) (by omega) hz ?_
          intro v6 W3 hown hgrow hat
          have T : N6 w lg [.int .i64 ag, .int .i64 a, .int .i64 n, .bool wr] (some W1.heap.size) v6 W3 := T.out.copied hown hgrow hat
          have T := Lib.hid T
          clear hown hgrow hat hz hl2
          simp only [Act.put]
          have HAG := (World.cell?_of_block (a := ⟨gm, 1, none⟩) (T.out.old.block gm HL.out)).trans (HB.out.cell 1)
          refine hK.out _ _ HAG (fun hHeld => ?_)
          clear hK K HAG
          refine wpAnyH_ready (rs := [16]) (by kernel_rfl) (by simp) ?_
          refine AllReadyH.cons (by rfl) (fun K hK => ?_) (AllReadyH.nil)
          · obtain ⟨A6, cap6, hv6⟩ := own_form T.out.own
            have hz := T.out.old.size
            have hl2 := HLG.out
            refine step_append_any W3 (by rfl) (.tmp 16) (.tmp 25) 71 (by rfl) w.heap.size 121 i0 _ 4 32 Tryz.underlying71 HI.out HZ0.out HZ1.out HZ2.out rfl (by decide) v6 lg.length (logCells lg) (by rfl) T.out.own W3.heap.size (some ⟨W1.heap.size, 0, none⟩) 1 1 [.int .i64 ag, .int .i64 a, .int .i64 n, .bool wr] (by rfl) (T.out.e15 _ rfl).2 (by rw [← HX.out]; exact acc_one x) (by unfold maxLen; omega) (by omega) hz ?_
            intro v16 W4 hown hgrow _
            have T : N16 w (lg ++ [x]) v16 W4 := by rw [← HX.out] at hown; have T1 := T.out; rw [← HX.out] at T1; exact T1.put hown hgrow
            have T := Lib.hid T
            clear hown hgrow hz hl2 hv6
            simp only [Act.put]
            have HAG := (World.cell?_of_block (a := ⟨gm, 1, none⟩) (T.out.old.block gm HL.out)).trans (HB.out.cell 1)
            refine hK.out _ _ HAG (fun hHeld => ?_)
            clear hK K HAG
            refine wpAnyH_take (i := 17) (v := .pointer (some ⟨gm, 0, none⟩)) (by rfl) (by kernel_rfl) (by kernel_rfl) (by kernel_rfl) (by intro _ _ _ h; exact h) (Or.inl ⟨by rfl, ?_⟩) (by assumption) ?_
            · intro W hSw
              try dsimp only at hSw
              go_simp
              try with_reducible rfl
            simp only [Act.put]
            refine wpAnyH_take (i := 18) (v := .pointer (some ⟨gm, 2, none⟩)) (by rfl) (by kernel_rfl) (by kernel_rfl) (by kernel_rfl) (by intro _ _ _ h; exact h) (Or.inl ⟨by rfl, ?_⟩) (by assumption) ?_
            · intro W hSw
              try dsimp only at hSw
              go_simp
              try with_reducible rfl
            simp only [Act.put]
            refine wpAnyH_ready (rs := [19]) (by kernel_rfl) (by simp) ?_
            refine AllReadyH.cons (by rfl) (fun K hK => ?_) AllReadyH.nil
            have hf := (World.frozen?_of_block (a := ⟨gm, 2, none⟩) (T.out.old.block gm HL.out)).trans (HB.out.frozen 2)
            obtain ⟨A16, cap16, hv⟩ := own_form T.out.own
            rw [show (lg ++ [x]).length = lg.length + 1 from by simp] at hv
            subst hv
            have HN := T.out.noted HM.out (by simp)
            have HE := T.out.ends HM.out (HB.out.cell 1)
            have HN := Lib.hid HN
            have HE := Lib.hid HE
            have hL := (World.cell?_of_block (a := ⟨gm, 2, none⟩) (T.out.old.block gm HL.out)).trans (HB.out.cell 2)
            clear T
            go_simp
            clear hf hL
            refine hK.out _ _ HE.out.2.2 (fun hHeld => ?_)
            clear hK K
            refine wpAnyH_done (by kernel_rfl) ?_ _
            have HE2 := HE.out.2.1
            clear HE
            have h41 : ¬ 4096 < lg.length + 1 := by have := HLG.out; omega
            go_wp2_with fail
            first | go_end0 | (refine bodyPost_ret (results_none rfl _ _ _) rfl ?_)
            exact ⟨rfl, _, HN.out⟩
    · go_simp
      obtain ⟨W1, hW⟩ : ∃ WW, (w.alloc (.cells #[.int .i64 ag, .int .i64 a, .int .i64 n, .bool wr] 121)).drew = WW := ⟨_, rfl⟩
      rw [hW]
      have T : NS w [.int .i64 ag, .int .i64 a, .int .i64 n, .bool wr] (none) (some w.heap.size) W1 := by rw [← hW]; exact T.out.laid (by rfl)
      have T := Lib.hid T
      clear hW
      have HAG := (World.cell?_of_block (a := ⟨gm, 1, none⟩) (T.out.old.block gm HL.out)).trans (HB.out.cell 1)
      refine hK.out _ _ HAG (fun hHeld => ?_)
      clear hK K HAG
      refine wpAnyH_ready (rs := [1]) (by kernel_rfl) (by simp) ?_
      refine AllReadyH.cons (by rfl) (fun K hK => ?_) (AllReadyH.nil)
      · go_simp
        obtain ⟨W2, hW⟩ : ∃ WW, W1.alloc (.cells #[] 121) = WW := ⟨_, rfl⟩
        rw [hW]
        have T : NS w [.int .i64 ag, .int .i64 a, .int .i64 n, .bool wr] (some W1.heap.size) (some w.heap.size) W2 := by rw [← hW]; exact T.out.made
        have T := Lib.hid T
        clear hW
        have HAG := (World.cell?_of_block (a := ⟨gm, 1, none⟩) (T.out.old.block gm HL.out)).trans (HB.out.cell 1)
        refine hK.out _ _ HAG (fun hHeld => ?_)
        clear hK K HAG
        refine wpAnyH_ready (rs := [6]) (by kernel_rfl) (by simp) ?_
        refine AllReadyH.cons (by rfl) (fun K hK => ?_) (AllReadyH.nil)
        · have hz := T.out.old.size
          have hl2 := HLG.out
          refine step_append_any W2 (by rfl) (.tmp 11) (.tmp 15) 71 (by rfl) w.heap.size 121 i0 _ 4 32 Tryz.underlying71 HI.out HZ0.out HZ1.out HZ2.out rfl (by decide) (.slice (some ⟨W1.heap.size, 0, none⟩) 0 0) 0 [] (by rfl) (T.out.e1 _ rfl) w.heap.size A lg.length cap (logCells lg) (by rfl) (HR.out.same (fun ad e => T.out.old.block _ (Reads.blk HO.out e)) (Nat.le_refl _)) (logCells_one lg) (by unfold maxLen; omega) (by omega) hz ?_
          intro v6 W3 hown hgrow hat
          have T : N6 w lg [.int .i64 ag, .int .i64 a, .int .i64 n, .bool wr] (some w.heap.size) v6 W3 := T.out.copied hown hgrow hat
          have T := Lib.hid T
          clear hown hgrow hat hz hl2
          simp only [Act.put]
          have HAG := (World.cell?_of_block (a := ⟨gm, 1, none⟩) (T.out.old.block gm HL.out)).trans (HB.out.cell 1)
          refine hK.out _ _ HAG (fun hHeld => ?_)
          clear hK K HAG
          refine wpAnyH_ready (rs := [16]) (by kernel_rfl) (by simp) ?_
          refine AllReadyH.cons (by rfl) (fun K hK => ?_) (AllReadyH.nil)
          · obtain ⟨A6, cap6, hv6⟩ := own_form T.out.own
            have hz := T.out.old.size
            have hl2 := HLG.out
            refine step_append_any W3 (by rfl) (.tmp 16) (.tmp 25) 71 (by rfl) w.heap.size 121 i0 _ 4 32 Tryz.underlying71 HI.out HZ0.out HZ1.out HZ2.out rfl (by decide) v6 lg.length (logCells lg) (by rfl) T.out.own W3.heap.size (some ⟨w.heap.size, 0, none⟩) 1 1 [.int .i64 ag, .int .i64 a, .int .i64 n, .bool wr] (by rfl) (T.out.e15 _ rfl).2 (by rw [← HX.out]; exact acc_one x) (by unfold maxLen; omega) (by omega) hz ?_
            intro v16 W4 hown hgrow _
            have T : N16 w (lg ++ [x]) v16 W4 := by rw [← HX.out] at hown; have T1 := T.out; rw [← HX.out] at T1; exact T1.put hown hgrow
            have T := Lib.hid T
            clear hown hgrow hz hl2 hv6
            simp only [Act.put]
            have HAG := (World.cell?_of_block (a := ⟨gm, 1, none⟩) (T.out.old.block gm HL.out)).trans (HB.out.cell 1)
            refine hK.out _ _ HAG (fun hHeld => ?_)
            clear hK K HAG
            refine wpAnyH_take (i := 17) (v := .pointer (some ⟨gm, 0, none⟩)) (by rfl) (by kernel_rfl) (by kernel_rfl) (by kernel_rfl) (by intro _ _ _ h; exact h) (Or.inl ⟨by rfl, ?_⟩) (by assumption) ?_
            · intro W hSw
              try dsimp only at hSw
              go_simp
              try with_reducible rfl
            simp only [Act.put]
            refine wpAnyH_take (i := 18) (v := .pointer (some ⟨gm, 2, none⟩)) (by rfl) (by kernel_rfl) (by kernel_rfl) (by kernel_rfl) (by intro _ _ _ h; exact h) (Or.inl ⟨by rfl, ?_⟩) (by assumption) ?_
            · intro W hSw
              try dsimp only at hSw
              go_simp
              try with_reducible rfl
            simp only [Act.put]
            refine wpAnyH_ready (rs := [19]) (by kernel_rfl) (by simp) ?_
            refine AllReadyH.cons (by rfl) (fun K hK => ?_) AllReadyH.nil
            have hf := (World.frozen?_of_block (a := ⟨gm, 2, none⟩) (T.out.old.block gm HL.out)).trans (HB.out.frozen 2)
            obtain ⟨A16, cap16, hv⟩ := own_form T.out.own
            rw [show (lg ++ [x]).length = lg.length + 1 from by simp] at hv
            subst hv
            have HN := T.out.noted HM.out (by simp)
            have HE := T.out.ends HM.out (HB.out.cell 1)
            have HN := Lib.hid HN
            have HE := Lib.hid HE
            have hL := (World.cell?_of_block (a := ⟨gm, 2, none⟩) (T.out.old.block gm HL.out)).trans (HB.out.cell 2)
            clear T
            go_simp
            clear hf hL
            refine hK.out _ _ HE.out.2.2 (fun hHeld => ?_)
            clear hK K
            refine wpAnyH_done (by kernel_rfl) ?_ _
            have HE2 := HE.out.2.1
            clear HE
            have h41 : ¬ 4096 < lg.length + 1 := by have := HLG.out; omega
            go_wp2_with fail
            first | go_end0 | (refine bodyPost_ret (results_none rfl _ _ _) rfl ?_)
            exact ⟨rfl, _, HN.out⟩
  · go_simp
    obtain ⟨W1, hW⟩ : ∃ WW, (w.alloc (.cells #[.int .i64 ag, .int .i64 a, .int .i64 n, .bool wr] 121)).drew = WW := ⟨_, rfl⟩
    rw [hW]
    have T : NS w [.int .i64 ag, .int .i64 a, .int .i64 n, .bool wr] (none) (some w.heap.size) W1 := by rw [← hW]; exact T.out.laid (by rfl)
    have T := Lib.hid T
    clear hW
    have HAG := (World.cell?_of_block (a := ⟨gm, 1, none⟩) (T.out.old.block gm HL.out)).trans (HB.out.cell 1)
    refine hK.out _ _ HAG (fun hHeld => ?_)
    clear hK K HAG
    refine wpAnyH_ready (rs := [1, 5]) (by kernel_rfl) (by simp) ?_
    refine AllReadyH.cons (by rfl) (fun K hK => ?_) (AllReadyH.cons (by rfl) (fun K hK => ?_) (AllReadyH.nil))
    · go_simp
      obtain ⟨W2, hW⟩ : ∃ WW, W1.alloc (.cells #[] 121) = WW := ⟨_, rfl⟩
      rw [hW]
      have T : NS w [.int .i64 ag, .int .i64 a, .int .i64 n, .bool wr] (some W1.heap.size) (some w.heap.size) W2 := by rw [← hW]; exact T.out.made
      have T := Lib.hid T
      clear hW
      have HAG := (World.cell?_of_block (a := ⟨gm, 1, none⟩) (T.out.old.block gm HL.out)).trans (HB.out.cell 1)
      refine hK.out _ _ HAG (fun hHeld => ?_)
      clear hK K HAG
      refine wpAnyH_ready (rs := [5]) (by kernel_rfl) (by simp) ?_
      refine AllReadyH.cons (by rfl) (fun K hK => ?_) (AllReadyH.nil)
      · have hL := (World.cell?_of_block (a := ⟨gm, 2, none⟩) (T.out.old.block gm HL.out)).trans (HB.out.cell 2)
        go_simp
        clear hL
        have HAG := (World.cell?_of_block (a := ⟨gm, 1, none⟩) (T.out.old.block gm HL.out)).trans (HB.out.cell 1)
        refine hK.out _ _ HAG (fun hHeld => ?_)
        clear hK K HAG
        refine wpAnyH_ready (rs := [6]) (by kernel_rfl) (by simp) ?_
        refine AllReadyH.cons (by rfl) (fun K hK => ?_) (AllReadyH.nil)
        · have hz := T.out.old.size
          have hl2 := HLG.out
          refine step_append_any W2 (by rfl) (.tmp 11) (.tmp 15) 71 (by rfl) w.heap.size 121 i0 _ 4 32 Tryz.underlying71 HI.out HZ0.out HZ1.out HZ2.out rfl (by decide) (.slice (some ⟨W1.heap.size, 0, none⟩) 0 0) 0 [] (by rfl) (T.out.e1 _ rfl) w.heap.size A lg.length cap (logCells lg) (by rfl) (HR.out.same (fun ad e => T.out.old.block _ (Reads.blk HO.out e)) (Nat.le_refl _)) (logCells_one lg) (by unfold maxLen; omega) (by omega) hz ?_
          intro v6 W3 hown hgrow hat
          have T : N6 w lg [.int .i64 ag, .int .i64 a, .int .i64 n, .bool wr] (some w.heap.size) v6 W3 := T.out.copied hown hgrow hat
          have T := Lib.hid T
          clear hown hgrow hat hz hl2
          simp only [Act.put]
          have HAG := (World.cell?_of_block (a := ⟨gm, 1, none⟩) (T.out.old.block gm HL.out)).trans (HB.out.cell 1)
          refine hK.out _ _ HAG (fun hHeld => ?_)
          clear hK K HAG
          refine wpAnyH_ready (rs := [16]) (by kernel_rfl) (by simp) ?_
          refine AllReadyH.cons (by rfl) (fun K hK => ?_) (AllReadyH.nil)
          · obtain ⟨A6, cap6, hv6⟩ := own_form T.out.own
            have hz := T.out.old.size
            have hl2 := HLG.out
            refine step_append_any W3 (by rfl) (.tmp 16) (.tmp 25) 71 (by rfl) w.heap.size 121 i0 _ 4 32 Tryz.underlying71 HI.out HZ0.out HZ1.out HZ2.out rfl (by decide) v6 lg.length (logCells lg) (by rfl) T.out.own W3.heap.size (some ⟨w.heap.size, 0, none⟩) 1 1 [.int .i64 ag, .int .i64 a, .int .i64 n, .bool wr] (by rfl) (T.out.e15 _ rfl).2 (by rw [← HX.out]; exact acc_one x) (by unfold maxLen; omega) (by omega) hz ?_
            intro v16 W4 hown hgrow _
            have T : N16 w (lg ++ [x]) v16 W4 := by rw [← HX.out] at hown; have T1 := T.out; rw [← HX.out] at T1; exact T1.put hown hgrow
            have T := Lib.hid T
            clear hown hgrow hz hl2 hv6
            simp only [Act.put]
            have HAG := (World.cell?_of_block (a := ⟨gm, 1, none⟩) (T.out.old.block gm HL.out)).trans (HB.out.cell 1)
            refine hK.out _ _ HAG (fun hHeld => ?_)
            clear hK K HAG
            refine wpAnyH_take (i := 17) (v := .pointer (some ⟨gm, 0, none⟩)) (by rfl) (by kernel_rfl) (by kernel_rfl) (by kernel_rfl) (by intro _ _ _ h; exact h) (Or.inl ⟨by rfl, ?_⟩) (by assumption) ?_
            · intro W hSw
              try dsimp only at hSw
              go_simp
              try with_reducible rfl
            simp only [Act.put]
            refine wpAnyH_take (i := 18) (v := .pointer (some ⟨gm, 2, none⟩)) (by rfl) (by kernel_rfl) (by kernel_rfl) (by kernel_rfl) (by intro _ _ _ h; exact h) (Or.inl ⟨by rfl, ?_⟩) (by assumption) ?_
            · intro W hSw
              try dsimp only at hSw
              go_simp
              try with_reducible rfl
            simp only [Act.put]
            refine wpAnyH_ready (rs := [19]) (by kernel_rfl) (by simp) ?_
            refine AllReadyH.cons (by rfl) (fun K hK => ?_) AllReadyH.nil
            have hf := (World.frozen?_of_block (a := ⟨gm, 2, none⟩) (T.out.old.block gm HL.out)).trans (HB.out.frozen 2)
            obtain ⟨A16, cap16, hv⟩ := own_form T.out.own
            rw [show (lg ++ [x]).length = lg.length + 1 from by simp] at hv
            subst hv
            have HN := T.out.noted HM.out (by simp)
            have HE := T.out.ends HM.out (HB.out.cell 1)
            have HN := Lib.hid HN
            have HE := Lib.hid HE
            have hL := (World.cell?_of_block (a := ⟨gm, 2, none⟩) (T.out.old.block gm HL.out)).trans (HB.out.cell 2)
            clear T
            go_simp
            clear hf hL
            refine hK.out _ _ HE.out.2.2 (fun hHeld => ?_)
            clear hK K
            refine wpAnyH_done (by kernel_rfl) ?_ _
            have HE2 := HE.out.2.1
            clear HE
            have h41 : ¬ 4096 < lg.length + 1 := by have := HLG.out; omega
            go_wp2_with fail
            first | go_end0 | (refine bodyPost_ret (results_none rfl _ _ _) rfl ?_)
            exact ⟨rfl, _, HN.out⟩
    · have hL := (World.cell?_of_block (a := ⟨gm, 2, none⟩) (T.out.old.block gm HL.out)).trans (HB.out.cell 2)
      go_simp
      clear hL
      have HAG := (World.cell?_of_block (a := ⟨gm, 1, none⟩) (T.out.old.block gm HL.out)).trans (HB.out.cell 1)
      refine hK.out _ _ HAG (fun hHeld => ?_)
      clear hK K HAG
      refine wpAnyH_ready (rs := [1]) (by kernel_rfl) (by simp) ?_
      refine AllReadyH.cons (by rfl) (fun K hK => ?_) (AllReadyH.nil)
      · go_simp
        obtain ⟨W2, hW⟩ : ∃ WW, W1.alloc (.cells #[] 121) = WW := ⟨_, rfl⟩
        rw [hW]
        have T : NS w [.int .i64 ag, .int .i64 a, .int .i64 n, .bool wr] (some W1.heap.size) (some w.heap.size) W2 := by rw [← hW]; exact T.out.made
        have T := Lib.hid T
        clear hW
        have HAG := (World.cell?_of_block (a := ⟨gm, 1, none⟩) (T.out.old.block gm HL.out)).trans (HB.out.cell 1)
        refine hK.out _ _ HAG (fun hHeld => ?_)
        clear hK K HAG
        refine wpAnyH_ready (rs := [6]) (by kernel_rfl) (by simp) ?_
        refine AllReadyH.cons (by rfl) (fun K hK => ?_) (AllReadyH.nil)
        · have hz := T.out.old.size
          have hl2 := HLG.out
          refine step_append_any W2 (by rfl) (.tmp 11) (.tmp 15) 71 (by rfl) w.heap.size 121 i0 _ 4 32 Tryz.underlying71 HI.out HZ0.out HZ1.out HZ2.out rfl (by decide) (.slice (some ⟨W1.heap.size, 0, none⟩) 0 0) 0 [] (by rfl) (T.out.e1 _ rfl) w.heap.size A lg.length cap (logCells lg) (by rfl) (HR.out.same (fun ad e => T.out.old.block _ (Reads.blk HO.out e)) (Nat.le_refl _)) (logCells_one lg) (by unfold maxLen; omega) (by omega) hz ?_
          intro v6 W3 hown hgrow hat
          have T : N6 w lg [.int .i64 ag, .int .i64 a, .int .i64 n, .bool wr] (some w.heap.size) v6 W3 := T.out.copied hown hgrow hat
          have T := Lib.hid T
          clear hown hgrow hat hz hl2
          simp only [Act.put]
          have HAG := (World.cell?_of_block (a := ⟨gm, 1, none⟩) (T.out.old.block gm HL.out)).trans (HB.out.cell 1)
          refine hK.out _ _ HAG (fun hHeld => ?_)
          clear hK K HAG
          refine wpAnyH_ready (rs := [16]) (by kernel_rfl) (by simp) ?_
          refine AllReadyH.cons (by rfl) (fun K hK => ?_) (AllReadyH.nil)
          · obtain ⟨A6, cap6, hv6⟩ := own_form T.out.own
            have hz := T.out.old.size
            have hl2 := HLG.out
            refine step_append_any W3 (by rfl) (.tmp 16) (.tmp 25) 71 (by rfl) w.heap.size 121 i0 _ 4 32 Tryz.underlying71 HI.out HZ0.out HZ1.out HZ2.out rfl (by decide) v6 lg.length (logCells lg) (by rfl) T.out.own W3.heap.size (some ⟨w.heap.size, 0, none⟩) 1 1 [.int .i64 ag, .int .i64 a, .int .i64 n, .bool wr] (by rfl) (T.out.e15 _ rfl).2 (by rw [← HX.out]; exact acc_one x) (by unfold maxLen; omega) (by omega) hz ?_
            intro v16 W4 hown hgrow _
            have T : N16 w (lg ++ [x]) v16 W4 := by rw [← HX.out] at hown; have T1 := T.out; rw [← HX.out] at T1; exact T1.put hown hgrow
            have T := Lib.hid T
            clear hown hgrow hz hl2 hv6
            simp only [Act.put]
            have HAG := (World.cell?_of_block (a := ⟨gm, 1, none⟩) (T.out.old.block gm HL.out)).trans (HB.out.cell 1)
            refine hK.out _ _ HAG (fun hHeld => ?_)
            clear hK K HAG
            refine wpAnyH_take (i := 17) (v := .pointer (some ⟨gm, 0, none⟩)) (by rfl) (by kernel_rfl) (by kernel_rfl) (by kernel_rfl) (by intro _ _ _ h; exact h) (Or.inl ⟨by rfl, ?_⟩) (by assumption) ?_
            · intro W hSw
              try dsimp only at hSw
              go_simp
              try with_reducible rfl
            simp only [Act.put]
            refine wpAnyH_take (i := 18) (v := .pointer (some ⟨gm, 2, none⟩)) (by rfl) (by kernel_rfl) (by kernel_rfl) (by kernel_rfl) (by intro _ _ _ h; exact h) (Or.inl ⟨by rfl, ?_⟩) (by assumption) ?_
            · intro W hSw
              try dsimp only at hSw
              go_simp
              try with_reducible rfl
            simp only [Act.put]
            refine wpAnyH_ready (rs := [19]) (by kernel_rfl) (by simp) ?_
            refine AllReadyH.cons (by rfl) (fun K hK => ?_) AllReadyH.nil
            have hf := (World.frozen?_of_block (a := ⟨gm, 2, none⟩) (T.out.old.block gm HL.out)).trans (HB.out.frozen 2)
            obtain ⟨A16, cap16, hv⟩ := own_form T.out.own
            rw [show (lg ++ [x]).length = lg.length + 1 from by simp] at hv
            subst hv
            have HN := T.out.noted HM.out (by simp)
            have HE := T.out.ends HM.out (HB.out.cell 1)
            have HN := Lib.hid HN
            have HE := Lib.hid HE
            have hL := (World.cell?_of_block (a := ⟨gm, 2, none⟩) (T.out.old.block gm HL.out)).trans (HB.out.cell 2)
            clear T
            go_simp
            clear hf hL
            refine hK.out _ _ HE.out.2.2 (fun hHeld => ?_)
            clear hK K
            refine wpAnyH_done (by kernel_rfl) ?_ _
            have HE2 := HE.out.2.1
            clear HE
            have h41 : ¬ 4096 < lg.length + 1 := by have := HLG.out; omega
            go_wp2_with fail
            first | go_end0 | (refine bodyPost_ret (results_none rfl _ _ _) rfl ?_)
            exact ⟨rfl, _, HN.out⟩
end
end
end Go.Proofs.YtbpgblmhacpjlaaGreat
