/-
  Arguments opened; parts that may be; chains but one; how DrvqBoth begins.
-/
import Derived.Test.YtbpgblmhacpjlaaBf
import Derived.Test.YtbpgblmhacpjlaaSep4
import Derived.Test.YtbpgblmhacpjlaaBg
import Derived.BigRegion
import Derived.Test.YtbpgblmhacpjlaaLaw
import Derived.Test.YtbpgblmhacpjlaaLc
import Derived.Deep.Strs
import Derived.Deep.Slices
import Derived.ChangeSlices
import Derived.BigQuiet
import Derived.Test.YtbpgblmhacpjlaaBe
import Derived.Test.YtbpgblmhacpjlaaChk
namespace Go.Proofs.Ytbpgblmhacpjlaa
open Go.RowKit

theorem own_none {w : World} {k : Nat} {e : TypeId} {size : Nat} (h : Blk w k e #[]) : w.ownsRow 0 e size (.slice (some ⟨k, 0, none⟩) 0 0) 0 [] :=
  ⟨by simp, .inr ⟨k, 0, #[], rfl, Nat.zero_le _, h, Nat.le_refl _, by unfold maxLen; omega, by simp, by simp⟩⟩
theorem St.pushEmpty {F0 : Nat → Prop} {w0 w : World} {l : List As} (h : St F0 w0 (stars l) w) (e : TypeId) (size : Nat) : St F0 w0 (stars (rowA e size (.slice (some ⟨w.heap.size, 0, none⟩) 0 0) 0 [] :: l)) (w.alloc (.cells #[] e)) :=
  h.add (B := rowA e size (.slice (some ⟨w.heap.size, 0, none⟩) 0 0) 0 []) (F := fun k => k = w.heap.size) (ba (Below.refl _ _) _) ⟨own_none (Blk.new w e #[]), fun k => by simp [Value.ownBlock, eq_comm]⟩ (fun k e => by omega)
end Go.Proofs.Ytbpgblmhacpjlaa
namespace Go.Proofs.Ytbpgblmhacpjlaa
open Go.RowKit

/-- may the last one be written? -/
def lastW : List IPt → Bool → Bool
  | [], v => v
  | p :: r, _ => lastW r p.wr
theorem chainGo_snoc (xs : List UInt8) (p : IPt) : ∀ (l : List IPt) (v : Bool), chainGo xs (l ++ [p]) v = (chainGo xs l v && (decide (0 < p.n) && (mayB xs p.at_ p.n && (!(lastW l v) || p.wr))))
  | [], v => by simp [chainGo, lastW]
  | a :: r, v => by
    rw [List.cons_append]
    unfold chainGo
    rw [chainGo_snoc xs p r a.wr]
    simp only [lastW, Bool.and_assoc]
theorem lastW_last : ∀ (l : List IPt) (v : Bool) (m : Nat) (h : m + 1 = l.length), lastW l v = (l[m]'(by omega)).wr
  | [], _, _, h => by simp at h
  | [a], v, m, h => by
    have : m = 0 := by simpa using h
    subst this; rfl
  | a :: b :: r, v, m, h => by
    obtain ⟨m, rfl⟩ : ∃ j, m = j + 1 := ⟨m - 1, by simp at h; omega⟩
    have := lastW_last (b :: r) a.wr m (by simpa using h)
    simpa [lastW] using this
/-- parts that may be in a memory of 1024 bytes -/
structure InsOk (l : List IPt) : Prop where
  go : ∀ xs : List UInt8, xs.length = 1024 → chainGo xs l false = true
  n : ∀ (j : Nat) (h : j < l.length), l[j].n < 9223372036854775808
theorem insOk_nil : InsOk [] := ⟨fun _ _ => rfl, fun j h => by simp at h⟩
theorem InsOk.snoc {l : List IPt} (h : InsOk l) {P M : Nat} {v : Bool} (h1 : P ≤ 775) (h2 : 1 ≤ M) (h3 : M ≤ 128) (hv : lastW l false = true → v = true) : InsOk (l ++ [⟨(P : Int), (M : Int), v⟩]) := by
  refine ⟨fun xs hx => ?_, fun j hj => ?_⟩
  · rw [chainGo_snoc, h.go xs hx]
    have e1 : decide (0 < (M : Int)) = true := decide_eq_true (by omega)
    have e2 : mayB xs (P : Int) (M : Int) = true := by unfold mayB; exact decide_eq_true ⟨by omega, by omega, by omega⟩
    show (true && (decide (0 < (M : Int)) && (mayB xs (P : Int) (M : Int) && (!(lastW l false) || v)))) = true
    rw [e1, e2]
    cases hl : lastW l false
    · rfl
    · rw [hv hl]; rfl
  · by_cases hlt : j < l.length
    · rw [List.getElem_append_left hlt]; exact h.n j hlt
    · rw [List.getElem_append_right (by omega)]
      simp only [List.getElem_singleton]
      omega
theorem ipt_snoc (l : List IPt) (p : IPt) : iptCells l ++ [.int .i64 p.at_, .int .i64 p.n, .bool p.wr] = iptCells (l ++ [p]) := by
  rw [iptCells_append]; rfl
set_option maxRecDepth 100000 in
set_option maxHeartbeats 6400000 in
theorem inside_v (A : Option Addr) (l : List IPt) (cap : Nat) (w : World) (hP : PsAt A l w) :
    Calls Try.prog 10 #[.slice A l.length cap] w fun e w' => ∃ (A' : Option Addr) (cap' : Nat) (l' : List IPt), e = .returned (.slice A' l'.length cap') ∧ l'.length ≤ 5 ∧ InsOk l' ∧ St (fun _ => False) w (stars [rowA 77 3 (.slice A' l'.length cap') l'.length (iptCells l')]) w' := by
  obtain ⟨i0, hi, hz0, hz1, hz2⟩ := info_parts Try.infoPart
  have HI := Lib.hid hi
  have HZ0 := Lib.hid hz0
  have HZ1 := Lib.hid hz1
  have HZ2 := Lib.hid hz2
  obtain ⟨L, hL⟩ : ∃ L, l.length = L := ⟨_, rfl⟩
  have HP := Lib.hid hP
  have HL := Lib.hid hL
  have S1 := Lib.hid ((St.begin w).pushEmpty 77 3)
  clear hi hz0 hz1 hz2 hP
  rw [hL]
  clear hL
  go_enter Try.func10, Try.ntmps10
  go_wp2_with fail
  go_loopw [3, 4] (fun pv iv wr => ∃ (i : Nat) (acc : List IPt) (A' : Option Addr) (cap' : Nat), i ≤ 5 ∧ acc.length = i ∧ iv = .int .i64 (i : Int) ∧ pv = .slice A' i cap' ∧ InsOk acc ∧ St (fun _ => False) w (stars [rowA 77 3 (.slice A' i cap') i (iptCells acc)]) wr) (fun _ iv _ => 5 - (RowKit.intOf iv).toNat)
  case atStart => exact ⟨0, [], _, _, Nat.zero_le _, rfl, rfl, rfl, insOk_nil, S1.out⟩
  case round =>
    obtain ⟨i, acc, A', cap', hi5, hacc, rfl, rfl, hok, S2⟩ := hrel
    clear S1
    by_cases hlt : i < L ∧ i < 5
    · obtain ⟨l1, l2⟩ := hlt
      obtain ⟨b, off, rfl, hbl, c0, c1, c2⟩ := HP.out i (by rw [HL.out]; exact l1)
      obtain ⟨a1, n1, v1, hp1⟩ : ∃ a n v, l[i]'(by rw [HL.out]; exact l1) = ⟨a, n, v⟩ := ⟨_, _, _, rfl⟩
      rw [hp1] at c0 c1 c2
      have hb := S2.law
      have c0 := (hb.cell (p := ⟨b, off + i * 3, none⟩) hbl).trans c0
      have c1 := (hb.cell (p := ⟨b, off + i * 3 + 1, none⟩) hbl).trans c1
      have c2 := (hb.cell (p := ⟨b, off + i * 3 + 2, none⟩) hbl).trans c2
      have c0 : wr.cell? ⟨b, off + i * 3, none⟩ = some (.int .i64 a1) := c0
      have c1 : wr.cell? ⟨b, off + i * 3 + 1, none⟩ = some (.int .i64 n1) := c1
      have c2 : wr.cell? ⟨b, off + i * 3 + 2, none⟩ = some (.bool v1) := c2
      obtain ⟨X, hX0, eX⟩ := low_and a1 8 255 (by omega) (by decide)
      have hX : X < 256 := hX0
      obtain ⟨Y, hY0, eY⟩ := low_and n1 7 127 (by omega) (by decide)
      have hY : Y < 128 := hY0
      obtain ⟨P, hPE⟩ : ∃ P : Nat, 520 + X = P := ⟨_, rfl⟩
      obtain ⟨M, hME⟩ : ∃ M : Nat, 1 + Y = M := ⟨_, rfl⟩
      have eP : IntKind.i64.wrap (520 + (X : Int)) = (P : Int) := by rw [IntWalk.i64_in _ (by omega)]; omega
      have eM : IntKind.i64.wrap (1 + (Y : Int)) = (M : Int) := by rw [IntWalk.i64_in _ (by omega)]; omega
      have HB1 := Lib.hid (show P ≤ 775 ∧ 1 ≤ M ∧ M ≤ 128 by omega)
      have g1 : (i : Int) < (L : Int) := by omega
      have g2 : (i : Int) < 5 := by omega
      have g3 : (0 : Int) ≤ (i : Int) := by omega
      have HI5 := Lib.hid l2
      have Hok := Lib.hid hok
      have Hacc := Lib.hid hacc
      have hbw : b < wr.heap.size := Nat.lt_of_lt_of_le hbl S2.size
      have hbn : Below wr.heap.size wr (wr.alloc (.cells #[.int .i64 0, .int .i64 0, .bool false] 77)).drew := (ba (Below.refl _ wr) _).drew
      have k0 : (wr.alloc (.cells #[.int .i64 0, .int .i64 0, .bool false] 77)).drew.cell? ⟨b, off + i * 3, none⟩ = some (.int .i64 a1) := (hbn.cell (p := ⟨b, off + i * 3, none⟩) hbw).trans c0
      have k1 : (wr.alloc (.cells #[.int .i64 0, .int .i64 0, .bool false] 77)).drew.cell? ⟨b, off + i * 3 + 1, none⟩ = some (.int .i64 n1) := (hbn.cell (p := ⟨b, off + i * 3 + 1, none⟩) hbw).trans c1
      have k2 : (wr.alloc (.cells #[.int .i64 0, .int .i64 0, .bool false] 77)).drew.cell? ⟨b, off + i * 3 + 2, none⟩ = some (.bool v1) := (hbn.cell (p := ⟨b, off + i * 3 + 2, none⟩) hbw).trans c2
      have Hbn := Lib.hid hbn
      clear hX0 hY0 hX hY hPE hME hp1 hb l1 l2 hok hi5 hbn
      cases v1
      · cases i with
        | zero =>
          rw [Nat.zero_mul, Nat.add_zero] at c0 c1 c2 k0 k1 k2
          have S2 := Lib.hid S2
          clear hacc
          go_wp2_with fail
          go_region
          have P3 : St (fun _ => False) w (stars [box wr.heap.size 77 #[.int .i64 (P : Int), .int .i64 (M : Int), .bool false], rowA 77 3 (.slice A' 0 cap') 0 (iptCells acc)]) (wr.alloc (.cells #[.int .i64 (P : Int), .int .i64 (M : Int), .bool false] 77)).drew := (S2.out.push 77 #[.int .i64 (P : Int), .int .i64 (M : Int), .bool false]).drew
          obtain ⟨w3, hw3⟩ : ∃ w3, (wr.alloc (.cells #[.int .i64 (P : Int), .int .i64 (M : Int), .bool false] 77)).drew = w3 := ⟨_, rfl⟩
          rw [hw3] at P3 ⊢
          have bk := P3.blk 0 (by simp) rfl
          have d0 := bk.cell 0
          have d1 := bk.cell 1
          have d2 := bk.cell 2
          simp only [List.getElem?_toArray, List.getElem?_cons_zero, List.getElem?_cons_succ] at d0 d1 d2
          have hlt3 := bk.lt
          have P4 := Lib.hid (P3.pushRow 77 3 1 [.int .i64 (P : Int), .int .i64 (M : Int), .bool false] rfl (by decide) (by decide))
          have r0 := Lib.hid (P4.out.row 0 (by simp) rfl)
          have r1 := Lib.hid (P4.out.row 2 (by simp) rfl)
          clear S2 P3 bk hw3
          go_wp2_with (at_builtin; refine wpList_append_lies _ rfl (.tmp 49) (.tmp 51) 37 rfl 0 77 i0 _ 3 24 Try.underlying37 HI.out HZ0.out HZ1.out HZ2.out rfl (by decide) (.slice A' 0 cap') 0 (iptCells acc) rfl r1.out ⟨w3.heap.size, 0, none⟩ 1 1 [.int .i64 (P : Int), .int .i64 (M : Int), .bool false] rfl rfl (r0.out.cells (g := w3.heap.size) rfl) (ipt_one [⟨P, M, false⟩]) (by decide) (by have := HI5.out; unfold maxLen; omega) (by have := HI5.out; omega) (Nat.zero_le _) _ rfl ?_; intro g3 cap3 w4 hown hgrow hat hlt4)
          have S5 := P4.out.grow 2 (by simp) rfl hown hgrow (fun x hk => by
            have e : g3 = x := by simpa [Value.ownBlock] using hk
            subst e
            rcases hat with e | e
            · exact .inl e
            · right; rw [e]; exact Nat.le_refl _)
          rw [ipt_snoc acc ⟨P, M, false⟩] at S5
          have S5 : St (fun _ => False) w (stars [rowA 77 3 (.slice (some ⟨g3, 0, none⟩) (0 + 1) cap3) (0 + 1) (iptCells (acc ++ [⟨P, M, false⟩]))]) w4 := St.pop (St.pop S5)
          have S5 := Lib.hid S5
          clear P4 r0 r1 hown hgrow hat hlt4 d0 d1 d2 hlt3
          go_roundw
          case rel =>
            obtain ⟨h1, h2, h3⟩ := HB1.out
            exact ⟨0 + 1, acc ++ [⟨P, M, false⟩], _, _, by have := HI5.out; omega, by rw [List.length_append, Hacc.out]; rfl, by go_num, rfl, Hok.out.snoc h1 h2 h3 (fun e => by have h0 := List.eq_nil_of_length_eq_zero Hacc.out; rw [h0] at e; cases e), S5.out⟩
          case measure => have := HI5.out; simp [RowKit.intOf]; try omega
        | succ m =>
          obtain ⟨lw, hlw⟩ : ∃ lw, lastW acc false = lw := ⟨_, rfl⟩
          have Hlw := Lib.hid hlw
          obtain ⟨gl, cap2, hv, -, hgl⟩ := (S2.row 0 (by simp) rfl).form (by omega)
          have hA : A' = some ⟨gl, 0, none⟩ := by injection hv
          subst hA
          have e0 := (iptCells_at acc m (by omega)).2.2
          rw [← lastW_last acc false m hacc.symm, hlw] at e0
          have e0 := (S2.row 0 (by simp) rfl).cells (g := gl) rfl _ _ e0
          rw [addr_zero] at e0
          have hgw : gl < wr.heap.size := hgl
          have e1 : (wr.alloc (.cells #[.int .i64 0, .int .i64 0, .bool false] 77)).drew.cell? ⟨gl, m * 3 + 2, none⟩ = some (.bool lw) := (Hbn.out.cell (p := ⟨gl, m * 3 + 2, none⟩) hgw).trans e0
          have q1 : IntKind.i64.wrap (((m + 1 : Nat) : Int) - 1) = (m : Int) := by rw [IntWalk.i64_in _ (by omega)]; omega
          have q1b : IntKind.i64.wrap ((m : Int) + 1 - 1) = (m : Int) := by rw [IntWalk.i64_in _ (by omega)]; omega
          have q2 : (0 : Int) ≤ (m : Int) := by omega
          have q3 : (m : Int) < ((m + 1 : Nat) : Int) := by omega
          have q3b : (m : Int) < (m : Int) + 1 := by omega
          have q4 : (0 : Int) < ((m + 1 : Nat) : Int) := by omega
          have q4b : (0 : Int) < (m : Int) + 1 := by omega
          have q5 : ((m + 1 : Nat) : Int) = (m : Int) + 1 := by omega
          have S2 := Lib.hid S2
          clear hacc hlw hv
          go_wp2_with fail
          go_region
          have P3 : St (fun _ => False) w (stars [box wr.heap.size 77 #[.int .i64 (P : Int), .int .i64 (M : Int), .bool lw], rowA 77 3 (.slice (some ⟨gl, 0, none⟩) (m + 1) cap') (m + 1) (iptCells acc)]) (wr.alloc (.cells #[.int .i64 (P : Int), .int .i64 (M : Int), .bool lw] 77)).drew := (S2.out.push 77 #[.int .i64 (P : Int), .int .i64 (M : Int), .bool lw]).drew
          obtain ⟨w3, hw3⟩ : ∃ w3, (wr.alloc (.cells #[.int .i64 (P : Int), .int .i64 (M : Int), .bool lw] 77)).drew = w3 := ⟨_, rfl⟩
          rw [hw3] at P3 ⊢
          have bk := P3.blk 0 (by simp) rfl
          have d0 := bk.cell 0
          have d1 := bk.cell 1
          have d2 := bk.cell 2
          simp only [List.getElem?_toArray, List.getElem?_cons_zero, List.getElem?_cons_succ] at d0 d1 d2
          have hlt3 := bk.lt
          have P4 := Lib.hid (P3.pushRow 77 3 1 [.int .i64 (P : Int), .int .i64 (M : Int), .bool lw] rfl (by decide) (by decide))
          have r0 := Lib.hid (P4.out.row 0 (by simp) rfl)
          have r1 := Lib.hid (P4.out.row 2 (by simp) rfl)
          clear S2 P3 bk hw3
          go_wp2_with (at_builtin; refine wpList_append_lies _ rfl (.tmp 49) (.tmp 51) 37 rfl 0 77 i0 _ 3 24 Try.underlying37 HI.out HZ0.out HZ1.out HZ2.out rfl (by decide) (.slice (some ⟨gl, 0, none⟩) (m + 1) cap') (m + 1) (iptCells acc) rfl r1.out ⟨w3.heap.size, 0, none⟩ 1 1 [.int .i64 (P : Int), .int .i64 (M : Int), .bool lw] rfl rfl (r0.out.cells (g := w3.heap.size) rfl) (ipt_one [⟨P, M, lw⟩]) (by decide) (by have := HI5.out; unfold maxLen; omega) (by have := HI5.out; omega) (Nat.zero_le _) _ rfl ?_; intro g3 cap3 w4 hown hgrow hat hlt4)
          have S5 := P4.out.grow 2 (by simp) rfl hown hgrow (fun x hk => by
            have e : g3 = x := by simpa [Value.ownBlock] using hk
            subst e
            rcases hat with e | e
            · exact .inl e
            · right; rw [e]; exact Nat.le_refl _)
          rw [ipt_snoc acc ⟨P, M, lw⟩] at S5
          have S5 : St (fun _ => False) w (stars [rowA 77 3 (.slice (some ⟨g3, 0, none⟩) ((m + 1) + 1) cap3) ((m + 1) + 1) (iptCells (acc ++ [⟨P, M, lw⟩]))]) w4 := St.pop (St.pop S5)
          have S5 := Lib.hid S5
          clear P4 r0 r1 hown hgrow hat hlt4 d0 d1 d2 hlt3
          go_roundw
          case rel =>
            obtain ⟨h1, h2, h3⟩ := HB1.out
            exact ⟨(m + 1) + 1, acc ++ [⟨P, M, lw⟩], _, _, by have := HI5.out; omega, by rw [List.length_append, Hacc.out]; rfl, by go_num, rfl, Hok.out.snoc h1 h2 h3 (fun e => by rw [Hlw.out] at e; exact e), S5.out⟩
          case measure => have := HI5.out; simp [RowKit.intOf]; try omega
      · have S2 := Lib.hid S2
        clear hacc
        go_wp2_with fail
        go_region
        have P3 : St (fun _ => False) w (stars [box wr.heap.size 77 #[.int .i64 (P : Int), .int .i64 (M : Int), .bool true], rowA 77 3 (.slice A' i cap') i (iptCells acc)]) (wr.alloc (.cells #[.int .i64 (P : Int), .int .i64 (M : Int), .bool true] 77)).drew := (S2.out.push 77 #[.int .i64 (P : Int), .int .i64 (M : Int), .bool true]).drew
        obtain ⟨w3, hw3⟩ : ∃ w3, (wr.alloc (.cells #[.int .i64 (P : Int), .int .i64 (M : Int), .bool true] 77)).drew = w3 := ⟨_, rfl⟩
        rw [hw3] at P3 ⊢
        have bk := P3.blk 0 (by simp) rfl
        have d0 := bk.cell 0
        have d1 := bk.cell 1
        have d2 := bk.cell 2
        simp only [List.getElem?_toArray, List.getElem?_cons_zero, List.getElem?_cons_succ] at d0 d1 d2
        have hlt3 := bk.lt
        have P4 := Lib.hid (P3.pushRow 77 3 1 [.int .i64 (P : Int), .int .i64 (M : Int), .bool true] rfl (by decide) (by decide))
        have r0 := Lib.hid (P4.out.row 0 (by simp) rfl)
        have r1 := Lib.hid (P4.out.row 2 (by simp) rfl)
        clear S2 P3 bk hw3
        go_wp2_with (at_builtin; refine wpList_append_lies _ rfl (.tmp 49) (.tmp 51) 37 rfl 0 77 i0 _ 3 24 Try.underlying37 HI.out HZ0.out HZ1.out HZ2.out rfl (by decide) (.slice A' i cap') i (iptCells acc) rfl r1.out ⟨w3.heap.size, 0, none⟩ 1 1 [.int .i64 (P : Int), .int .i64 (M : Int), .bool true] rfl rfl (r0.out.cells (g := w3.heap.size) rfl) (ipt_one [⟨P, M, true⟩]) (by decide) (by have := HI5.out; unfold maxLen; omega) (by have := HI5.out; omega) (Nat.zero_le _) _ rfl ?_; intro g3 cap3 w4 hown hgrow hat hlt4)
        have S5 := P4.out.grow 2 (by simp) rfl hown hgrow (fun x hk => by
          have e : g3 = x := by simpa [Value.ownBlock] using hk
          subst e
          rcases hat with e | e
          · exact .inl e
          · right; rw [e]; exact Nat.le_refl _)
        rw [ipt_snoc acc ⟨P, M, true⟩] at S5
        have S5 : St (fun _ => False) w (stars [rowA 77 3 (.slice (some ⟨g3, 0, none⟩) (i + 1) cap3) (i + 1) (iptCells (acc ++ [⟨P, M, true⟩]))]) w4 := St.pop (St.pop S5)
        have S5 := Lib.hid S5
        clear P4 r0 r1 hown hgrow hat hlt4 d0 d1 d2 hlt3
        go_roundw
        case rel =>
          obtain ⟨h1, h2, h3⟩ := HB1.out
          exact ⟨i + 1, acc ++ [⟨P, M, true⟩], _, _, by have := HI5.out; omega, by rw [List.length_append, Hacc.out]; rfl, by go_num, rfl, Hok.out.snoc h1 h2 h3 (fun _ => rfl), S5.out⟩
        case measure => have := HI5.out; simp [RowKit.intOf]; try omega
    · have S2 := Lib.hid S2
      have Hok := Lib.hid hok
      have Hacc := Lib.hid hacc
      clear HP hok hacc
      have HA5 := Lib.hid hi5
      by_cases g1 : (i : Int) < (L : Int)
      · have g2 : ¬ (i : Int) < 5 := by omega
        clear hlt hi5
        go_wp2_with fail
        go_ret
        exact ⟨A', cap', acc, by rw [Hacc.out]; rfl, by rw [Hacc.out]; exact HA5.out, Hok.out, by rw [Hacc.out]; exact S2.out⟩
      · clear hlt hi5
        go_wp2_with fail
        go_ret
        exact ⟨A', cap', acc, by rw [Hacc.out]; rfl, by rw [Hacc.out]; exact HA5.out, Hok.out, by rw [Hacc.out]; exact S2.out⟩
end Go.Proofs.Ytbpgblmhacpjlaa
namespace Go.Proofs.Ytbpgblmhacpjlaa
open Go.RowKit

theorem Try.infoChain : (Try.prog.info? 44).map (fun i => (i.zero, i.size, i.bytes)) = some (some (.agg #[.int .i64 0, .int .i64 0, .slice none 0 0]), 3, 40) := by kernel_rfl
theorem ceCells_one' (e : Ce) : ceCells [e] = [.int .i64 (e.c.id : Int), .int .i64 (e.c.ps.length : Int), .slice e.A e.c.ps.length e.cap] := rfl
/-- of the first i all but number k -/
def woL (T : List Ce) (k i : Nat) : List Ce := (T.take i).eraseIdx k
theorem woL_all (T : List Ce) (k : Nat) : woL T k T.length = T.eraseIdx k := by unfold woL; rw [List.take_length]
theorem woL_same {T : List Ce} {i : Nat} (hi : i < T.length) : woL T i (i + 1) = woL T i i := by
  unfold woL
  have hl : (T.take i).length = i := by rw [List.length_take]; omega
  rw [List.take_succ_eq_append_getElem hi, List.eraseIdx_append_of_length_le (by omega), hl, Nat.sub_self, List.eraseIdx_of_length_le (l := T.take i) (by omega)]
  simp
theorem woL_next {T : List Ce} {k i : Nat} (hi : i < T.length) (hk : k ≠ i) : woL T k (i + 1) = woL T k i ++ [T[i]] := by
  unfold woL
  have hl : (T.take i).length = i := by rw [List.length_take]; omega
  rw [List.take_succ_eq_append_getElem hi]
  rcases Nat.lt_or_ge k i with h | h
  · rw [List.eraseIdx_append_of_lt_length (by omega)]
  · rw [List.eraseIdx_append_of_length_le (by omega), hl, List.eraseIdx_of_length_le (l := T.take i) (by omega), List.eraseIdx_of_length_le (by simp; omega)]
theorem woL_length (T : List Ce) (k i : Nat) : (woL T k i).length ≤ T.length := by
  unfold woL
  rw [List.length_eraseIdx, List.length_take]
  split <;> omega
set_option maxRecDepth 100000 in
set_option maxHeartbeats 6400000 in
theorem without_v (A : Option Addr) (T : List Ce) (cap k : Nat) (w : World) (hA : 0 < T.length → ∃ b off, A = some ⟨b, off, none⟩ ∧ b < w.heap.size ∧ ∀ (j : Nat) (u : Value), (ceCells T)[j]? = some u → w.cell? ⟨b, off + j, none⟩ = some u) (hT : T.length ≤ 1000) :
    Calls Try.prog 16 #[.slice A T.length cap, .int .i64 (k : Int)] w fun e w' => ∃ (A' : Option Addr) (cap' : Nat), e = .returned (.slice A' (T.eraseIdx k).length cap') ∧ St (fun _ => False) w (stars [rowC 3 (.slice A' (T.eraseIdx k).length cap') (T.eraseIdx k).length (ceCells (T.eraseIdx k))]) w' := by
  obtain ⟨i0, hi, hz0, hz1, hz2⟩ := info_parts Try.infoChain
  have HI := Lib.hid hi
  have HZ0 := Lib.hid hz0
  have HZ1 := Lib.hid hz1
  have HZ2 := Lib.hid hz2
  obtain ⟨L, hL⟩ : ∃ L, T.length = L := ⟨_, rfl⟩
  have HA := Lib.hid hA
  have HL := Lib.hid hL
  have HT := Lib.hid hT
  have HL3 := Lib.hid (show L ≤ 1000 by omega)
  have S1 : St (fun _ => False) w (stars [rowC 3 (.slice (some ⟨w.heap.size, 0, none⟩) 0 0) 0 []]) (w.alloc (.cells #[] 44)) := ((St.begin w).alloc _).pushC0 3 ⟨w.heap.size, 0, none⟩
  have S1 := Lib.hid S1
  clear hi hz0 hz1 hz2 hA hT
  rw [hL]
  clear hL
  go_enter Try.func16, Try.ntmps16
  go_wp2_with fail
  go_loopw [5, 6] (fun ov iv wr => ∃ (i n : Nat) (A' : Option Addr) (cap' : Nat), i ≤ L ∧ (woL T k i).length = n ∧ iv = .int .i64 (i : Int) ∧ ov = .slice A' n cap' ∧ St (fun _ => False) w (stars [rowC 3 (.slice A' n cap') n (ceCells (woL T k i))]) wr) (fun _ iv _ => L - (RowKit.intOf iv).toNat)
  case atStart => exact ⟨0, 0, _, _, Nat.zero_le _, by simp [woL], rfl, rfl, by simpa [woL, ceCells] using S1.out⟩
  case round =>
    obtain ⟨i, n, A', cap', hiL, hn, rfl, rfl, S2⟩ := hrel
    clear S1
    by_cases hlt : i < L
    · have g1 : (i : Int) < (L : Int) := by omega
      have g2 : (0 : Int) ≤ (i : Int) := by omega
      have hiT : i < T.length := by rw [HL.out]; exact hlt
      have u3 := HL3.out
      have u1 : wrap64 ((i : Int) + 1) = (i : Int) + 1 := wrap64_of (by omega) (by omega)
      have u2 : IntKind.i64.wrap ((i : Int) + 1) = (i : Int) + 1 := IntWalk.i64_in _ (by omega)
      clear u3
      by_cases hk : k = i
      · subst hk
        have g3 : ((k : Int) != (k : Int)) = false := by simp
        have HLT := Lib.hid hlt
        have Hn := Lib.hid ((congrArg List.length (woL_same hiT)).trans hn)
        have S2 := by rw [← woL_same hiT] at S2; exact S2
        have S2 := Lib.hid S2
        clear hiT hn
        go_wp2_with fail
        go_roundw
        case rel =>
          have h3 := HL3.out
          have h4 := HLT.out
          exact ⟨k + 1, n, A', cap', by omega, Hn.out, by go_num, rfl, S2.out⟩
        case measure => have := HLT.out; have := HL3.out; simp [RowKit.intOf]; omega
      · have g3 : ((i : Int) != (k : Int)) = true := by simp; omega
        obtain ⟨b, off, rfl, hbl, hcs⟩ := HA.out (by rw [HL.out]; omega)
        have hb := S2.law
        obtain ⟨a0, a1, a2⟩ := ceCells_at T i hiT
        have c0 := (hb.cell (p := ⟨b, off + i * 3, none⟩) hbl).trans (hcs _ _ a0)
        have c1 := (hb.cell (p := ⟨b, off + (i * 3 + 1), none⟩) hbl).trans (hcs _ _ a1)
        have c2 := (hb.cell (p := ⟨b, off + (i * 3 + 2), none⟩) hbl).trans (hcs _ _ a2)
        rw [← Nat.add_assoc] at c1 c2
        obtain ⟨e, he⟩ : ∃ e, T[i] = e := ⟨_, rfl⟩
        rw [he] at c0 c1 c2
        clear a0 a1 a2
        have hnx := woL_next hiT hk
        rw [he] at hnx
        have hle := woL_length T k i
        rw [hn] at hle
        have P4 := Lib.hid (S2.pushRow 44 3 1 [.int .i64 (e.c.id : Int), .int .i64 (e.c.ps.length : Int), .slice e.A e.c.ps.length e.cap] rfl (by decide) (by decide))
        have r0 := Lib.hid (P4.out.row 0 (by simp) rfl)
        have HLT := Lib.hid hlt
        have Hnx := Lib.hid hnx
        have Hn := Lib.hid hn
        have Hle := Lib.hid hle
        clear hiT hn S2 hb hcs hbl he hnx hle
        go_wp2_with (at_builtin; refine wpList_append_c P4.out 1 (by simp) rfl rfl (.tmp 17) (.tmp 22) 35 rfl i0 _ 40 Try.underlying35 HI.out HZ0.out HZ1.out HZ2.out rfl rfl ⟨wr.heap.size, 0, none⟩ [.int .i64 (e.c.id : Int), .int .i64 (e.c.ps.length : Int), .slice e.A e.c.ps.length e.cap] rfl rfl (r0.out.cells (g := wr.heap.size) rfl) (by rw [← ceCells_one' e]; exact ce_one [e]) (by have := HT.out; have := Hle.out; unfold maxLen; omega) (by have := HT.out; have := Hle.out; omega) ?_; intro A5 cap5 w5 S5)
        have S5 : St (fun _ => False) w (stars [rowC 3 (.slice A5 (n + 1) cap5) (n + 1) (ceCells (woL T k i) ++ [.int .i64 (e.c.id : Int), .int .i64 (e.c.ps.length : Int), .slice e.A e.c.ps.length e.cap])]) w5 := St.pop S5
        rw [← ceCells_one' e, ← ceCells_append, ← Hnx.out] at S5
        have S5 := Lib.hid S5
        clear P4 r0 c0 c1 c2
        go_roundw
        case rel =>
          have h3 := HL3.out
          have h4 := HLT.out
          exact ⟨i + 1, n + 1, A5, cap5, by omega, by rw [Hnx.out, List.length_append, Hn.out]; rfl, by go_num, rfl, S5.out⟩
        case measure => have := HLT.out; have := HL3.out; simp [RowKit.intOf]; omega
    · have g1 : ¬ (i : Int) < (L : Int) := by omega
      obtain rfl : i = L := by omega
      have S2 := Lib.hid S2
      have Hn := Lib.hid hn
      clear HA hn
      go_wp2_with fail
      go_ret
      have e1 : woL T k i = T.eraseIdx k := by rw [← HL.out]; exact woL_all T k
      have h1 := S2.out
      have h2 := Hn.out
      rw [e1] at h1 h2
      exact ⟨A', cap', by rw [h2]; rfl, by rw [h2]; exact h1⟩
end Go.Proofs.Ytbpgblmhacpjlaa
namespace Go.Proofs.Ytbpgblmhacpjlaa
open Go.Joins Go.ChangeShapes Go.WideShapes Go.ChangeAt Go.RowKit Go.Deep
open Go.ChangeMaps (open_string shut_string)

theorem Try.cells3 : Try.prog.cellsOf 3 = 1 := by kernel_rfl
theorem Try.cells4 : Try.prog.cellsOf 4 = 1 := by kernel_rfl
theorem Try.cells9 : Try.prog.cellsOf 9 = 1 := by kernel_rfl
theorem Try.cells24 : Try.prog.cellsOf 24 = 4 := by kernel_rfl
theorem Try.cells57 : Try.prog.cellsOf 57 = 1 := by kernel_rfl
theorem Try.cells59 : Try.prog.cellsOf 59 = 6 := by kernel_rfl
theorem Try.cells37 : Try.prog.cellsOf 37 = 1 := by kernel_rfl
theorem Try.cells77 : Try.prog.cellsOf 77 = 3 := by kernel_rfl
theorem Try.cells64 : Try.prog.cellsOf 64 = 3 := by kernel_rfl
theorem Try.cells66 : Try.prog.cellsOf 66 = 10 := by kernel_rfl
/-- A call of a script. -/
structure OpV where
  k : Int
  a : Int
  id : Int
  n : Int
  pA : Option Addr
  pl : List IPt
  pc : Nat
  s : ByteArray
  eo : Int
  ew : Bool
  ef : Int
  wr : Bool
def OpV.cells (o : OpV) : List Value := [.int .i64 o.k, .int .i64 o.a, .int .i64 o.id, .int .i64 o.n, .slice o.pA o.pl.length o.pc, .string o.s, .int .i64 o.eo, .bool o.ew, .int .i64 o.ef, .bool o.wr]
structure OpV.Ok (o : OpV) (w : World) : Prop where
  parts : PsAt o.pA o.pl w
  most : o.pl.length ≤ o.pc ∧ o.pc ≤ maxLen
  fit : ∀ (j : Nat) (h : j < o.pl.length), o.pl[j].n < 9223372036854775808
  n64 : -9223372036854775808 ≤ o.n ∧ o.n < 9223372036854775808
  s63 : o.s.size ≤ 9223372036854775807
theorem PsAt.far {A : Option Addr} {l : List IPt} {w w' : World} {B : Nat} (h : PsAt A l w) (hB : w.heap.size ≤ B) (hb : Below B w w') : PsAt A l w' := by
  intro j hj
  obtain ⟨b, off, e, hlt, c0, c1, c2⟩ := h j hj
  have hc : ∀ o, w'.cell? ⟨b, o, none⟩ = w.cell? ⟨b, o, none⟩ := fun o => hb.cell (p := ⟨b, o, none⟩) (Nat.lt_of_lt_of_le hlt hB)
  exact ⟨b, off, e, by have := hb.size; omega, (hc _).trans c0, (hc _).trans c1, (hc _).trans c2⟩
theorem OpV.Ok.far {o : OpV} {w w' : World} {B : Nat} (h : o.Ok w) (hB : w.heap.size ≤ B) (hb : Below B w w') : o.Ok w' := ⟨h.parts.far hB hb, h.most, h.fit, h.n64, h.s63⟩
/-- A slice of calls that came in, nil let in. -/
def OpsAt (A : Option Addr) (n : Nat) (w : World) : Prop := 0 < n → ∃ b off, A = some ⟨b, off, none⟩ ∧ b < w.heap.size ∧ ∀ i, i < n → ∃ o : OpV, o.Ok w ∧ ∀ (j : Nat) (u : Value), o.cells[j]? = some u → w.cell? ⟨b, off + (i * 10 + j), none⟩ = some u
theorem OpsAt.far {A : Option Addr} {n : Nat} {w w' : World} (h : OpsAt A n w) {B : Nat} (hB : w.heap.size ≤ B) (hb : Below B w w') : OpsAt A n w' := by
  intro hn
  obtain ⟨b, off, hA, hlt, hc⟩ := h hn
  refine ⟨b, off, hA, by have := hb.size; omega, fun i hi => ?_⟩
  obtain ⟨o, ho, hj⟩ := hc i hi
  exact ⟨o, ho.far hB hb, fun j u hu => (hb.cell (p := ⟨b, off + (i * 10 + j), none⟩) (Nat.lt_of_lt_of_le hlt hB)).trans (hj j u hu)⟩
theorem list_of {α : Type} (n : Nat) (P : Nat → α → Prop) (h : ∀ i, i < n → ∃ x, P i x) : ∃ l : List α, l.length = n ∧ ∀ (i : Nat) (hi : i < l.length), P i l[i] := by
  induction n with
  | zero => exact ⟨[], rfl, fun i hi => absurd hi (Nat.not_lt_zero _)⟩
  | succ n ih =>
    obtain ⟨l, hl, hP⟩ := ih (fun i hi => h i (by omega))
    obtain ⟨x, hx⟩ := h n (by omega)
    refine ⟨l ++ [x], by simp [hl], fun i hi => ?_⟩
    rw [List.length_append] at hi
    by_cases hlt : i < l.length
    · rw [List.getElem_append_left hlt]; exact hP i hlt
    · have e : i = l.length := by simp at hi; omega
      subst e
      rw [List.getElem_append_right (Nat.le_refl _)]
      simp only [Nat.sub_self, List.getElem_cons_zero]
      rw [hl]; exact hx
section
variable {H : Type} {enc : TypeId × Value → H} {w : World} {base : Nat} {spare : Nat → Bool} {held : Bool}
theorem cells_lay {m : Nat} {c0 c1 c2 c3 : Value} {x : DataW H × List MemPlace} (h : DataW.trod enc Try.prog w base spare held m 24 [c0, c1, c2, c3] = some x) :
    ∃ (a b c d : Int), c0 = .int .i64 a ∧ c1 = .int .i64 b ∧ c2 = .int .i64 c ∧ c3 = .int .i64 d := by
  obtain ⟨ys, m, _, _, _, hyl, hg⟩ := DataW.trod_struct Try.underlying24 h
  match ys, hyl with
  | [y0, y1, y2, y3], _ =>
  have g0 := hg 0 _ rfl
  have g1 := hg 1 _ rfl
  have g2 := hg 2 _ rfl
  have g3 := hg 3 _ rfl
  change DataW.trod enc Try.prog w base spare held m 3 (List.take (Try.prog.cellsOf 3) (List.drop 0 [c0, c1, c2, c3])) = some y0 at g0
  rw [Try.cells3] at g0
  change DataW.trod enc Try.prog w base spare held m 3 (List.take (Try.prog.cellsOf 3) (List.drop 1 [c0, c1, c2, c3])) = some y1 at g1
  rw [Try.cells3] at g1
  change DataW.trod enc Try.prog w base spare held m 3 (List.take (Try.prog.cellsOf 3) (List.drop 2 [c0, c1, c2, c3])) = some y2 at g2
  rw [Try.cells3] at g2
  change DataW.trod enc Try.prog w base spare held m 3 (List.take (Try.prog.cellsOf 3) (List.drop 3 [c0, c1, c2, c3])) = some y3 at g3
  rw [Try.cells3] at g3
  obtain ⟨a, e0, _, _⟩ := DataW.trod_int Try.underlying3 (cs := [c0]) g0
  obtain ⟨b, e1, _, _⟩ := DataW.trod_int Try.underlying3 (cs := [c1]) g1
  obtain ⟨c, e2, _, _⟩ := DataW.trod_int Try.underlying3 (cs := [c2]) g2
  obtain ⟨d, e3, _, _⟩ := DataW.trod_int Try.underlying3 (cs := [c3]) g3
  simp at e0 e1 e2 e3
  exact ⟨a, b, c, d, e0, e1, e2, e3⟩
theorem cells_event {m : Nat} {c0 c1 c2 : Value} {x : DataW H × List MemPlace} (h : DataW.trod enc Try.prog w base spare held m 64 [c0, c1, c2] = some x) :
    ∃ (o : Int) (v : Bool) (f : Int), c0 = .int .i64 o ∧ c1 = .bool v ∧ c2 = .int .i64 f := by
  obtain ⟨ys, m, _, _, _, hyl, hg⟩ := DataW.trod_struct Try.underlying64 h
  match ys, hyl with
  | [y0, y1, y2], _ =>
  have g0 := hg 0 _ rfl
  have g1 := hg 1 _ rfl
  have g2 := hg 2 _ rfl
  change DataW.trod enc Try.prog w base spare held m 3 (List.take (Try.prog.cellsOf 3) (List.drop 0 [c0, c1, c2])) = some y0 at g0
  rw [Try.cells3] at g0
  change DataW.trod enc Try.prog w base spare held m 4 (List.take (Try.prog.cellsOf 4) (List.drop 1 [c0, c1, c2])) = some y1 at g1
  rw [Try.cells4] at g1
  change DataW.trod enc Try.prog w base spare held m 3 (List.take (Try.prog.cellsOf 3) (List.drop 2 [c0, c1, c2])) = some y2 at g2
  rw [Try.cells3] at g2
  obtain ⟨a, e0, _, _⟩ := DataW.trod_int Try.underlying3 (cs := [c0]) g0
  obtain ⟨b, e1, _⟩ := DataW.trod_bool Try.underlying4 (cs := [c1]) g1
  obtain ⟨c, e2, _, _⟩ := DataW.trod_int Try.underlying3 (cs := [c2]) g2
  simp at e0 e1 e2
  exact ⟨a, b, c, e0, e1, e2⟩
theorem cells_part {m : Nat} {l : List Value} {x : DataW H × List MemPlace} (hl : l.length = 3) (h : DataW.trod enc Try.prog w base spare held m 77 l = some x) :
    ∃ p : IPt, p.n < 9223372036854775808 ∧ l = p.cells := by
  match l, hl with
  | [c0, c1, c2], _ =>
  obtain ⟨ys, m, _, _, _, hyl, hg⟩ := DataW.trod_struct Try.underlying77 h
  match ys, hyl with
  | [y0, y1, y2], _ =>
  have g0 := hg 0 _ rfl
  have g1 := hg 1 _ rfl
  have g2 := hg 2 _ rfl
  change DataW.trod enc Try.prog w base spare held m 3 (List.take (Try.prog.cellsOf 3) (List.drop 0 [c0, c1, c2])) = some y0 at g0
  rw [Try.cells3] at g0
  change DataW.trod enc Try.prog w base spare held m 3 (List.take (Try.prog.cellsOf 3) (List.drop 1 [c0, c1, c2])) = some y1 at g1
  rw [Try.cells3] at g1
  change DataW.trod enc Try.prog w base spare held m 4 (List.take (Try.prog.cellsOf 4) (List.drop 2 [c0, c1, c2])) = some y2 at g2
  rw [Try.cells4] at g2
  obtain ⟨a, e0, _, _⟩ := DataW.trod_int Try.underlying3 (cs := [c0]) g0
  obtain ⟨n, e1, _, k1⟩ := DataW.trod_int Try.underlying3 (cs := [c1]) g1
  obtain ⟨b, e2, _⟩ := DataW.trod_bool Try.underlying4 (cs := [c2]) g2
  obtain rfl := (List.cons.inj e0).1
  obtain rfl := (List.cons.inj e1).1
  obtain rfl := (List.cons.inj e2).1
  have k1 := bounds_i64 k1
  exact ⟨⟨a, n, b⟩, by show n < _; omega, rfl⟩
/-- a slice of structs of a known count of cells, its head and each one's cells -/
theorem slice_head {a : Addr} {size len : Nat} {α : Type} {cells : α → List Value} {Q : α → Prop} (hz : 0 < size) (hn : 0 < len) (hcl : ∀ x, (cells x).length = size)
    (each : ∀ i, i < len → ∃ o : α, Q o ∧ ∀ (j : Nat) (u : Value), (cells o)[j]? = some u → w.cell? ((a.add (i * size)).add j) = some u) :
    ∃ b off, a = ⟨b, off, none⟩ ∧ b < w.heap.size ∧ ∀ i, i < len → ∃ o : α, Q o ∧ ∀ (j : Nat) (u : Value), (cells o)[j]? = some u → w.cell? ⟨b, off + (i * size + j), none⟩ = some u := by
  obtain ⟨b, off, sp⟩ := a
  obtain ⟨o, ho, h0⟩ := each 0 hn
  obtain ⟨u, hu⟩ : ∃ u, (cells o)[0]? = some u := ⟨_, List.getElem?_eq_getElem (by rw [hcl]; exact hz)⟩
  have h0 := h0 0 u hu
  have e0 : ((⟨b, off, sp⟩ : Addr).add (0 * size)).add 0 = ⟨b, off, sp⟩ := by rw [Nat.zero_mul]; rfl
  rw [e0] at h0
  have hlt : b < w.heap.size := World.block_lt_of_cell? w _ h0
  have hs : sp = none := by
    unfold World.cell? at h0
    split at h0
    · split at h0
      · cases h0
      · rename_i hq
        simpa using hq
    · cases h0
  subst hs
  refine ⟨b, off, rfl, hlt, fun i hi => ?_⟩
  obtain ⟨o, ho, hj⟩ := each i hi
  refine ⟨o, ho, fun j u hu => ?_⟩
  have e : (⟨b, off + (i * size + j), none⟩ : Addr) = ((⟨b, off, none⟩ : Addr).add (i * size)).add j := by
    unfold Addr.add
    by_cases h1 : i * size = 0 <;> by_cases h2 : j = 0 <;> simp [h1, h2]
    · omega
  rw [e]; exact hj j u hu
theorem open_parts {m : Nat} {c : Value} {x : DataW H × List MemPlace} (h : DataW.trod enc Try.prog w base spare held m 37 [c] = some x) :
    ∃ (A : Option Addr) (l : List IPt) (cap : Nat), c = .slice A l.length cap ∧ PsAt A l w ∧ (l.length ≤ cap ∧ cap ≤ maxLen) ∧ ∀ (j : Nat) (h : j < l.length), l[j].n < 9223372036854775808 := by
  rcases open_slice Try.underlying37 h with ⟨hcs, _⟩ | ⟨a, len, cap, mm, fu, Dd, Pl, hcs, _, hle, hcap, hmm, _, hx⟩
  · simp at hcs
    exact ⟨none, [], 0, hcs, fun j hj => absurd hj (Nat.not_lt_zero _), ⟨Nat.le_refl _, Nat.zero_le _⟩, fun j hj => absurd hj (Nat.not_lt_zero _)⟩
  · simp at hcs
    have hlm : len ≤ mm := by rw [hmm]; split <;> omega
    have each : ∀ i, i < len → ∃ p : IPt, p.n < 9223372036854775808 ∧ ∀ (j : Nat) (u : Value), p.cells[j]? = some u → w.cell? ((a.add (i * 3)).add j) = some u := by
      intro i hi
      obtain ⟨cs', h1, h2⟩ := hx i (by omega)
      rw [Try.cells77] at h1
      obtain ⟨_, hlen, hc⟩ := World.cells?_some h1
      obtain ⟨p, hp, rfl⟩ := cells_part hlen h2
      refine ⟨p, hp, fun j u hu => ?_⟩
      have hj : j < 3 := by
        have := (List.getElem?_eq_some_iff.1 hu).1
        simpa [IPt.cells] using this
      rw [hc j hj]; exact hu
    rcases Nat.eq_zero_or_pos len with hz | hn
    · subst hz
      exact ⟨some a, [], cap, hcs, fun j hj => absurd hj (Nat.not_lt_zero _), ⟨Nat.zero_le _, hcap⟩, fun j hj => absurd hj (Nat.not_lt_zero _)⟩
    · obtain ⟨b, off, rfl, hlt, hh⟩ := slice_head (a := a) (size := 3) (cells := IPt.cells) (Q := fun p => p.n < 9223372036854775808) (by decide) hn (fun p : IPt => rfl) each
      obtain ⟨l, hl, hP⟩ := list_of len _ hh
      subst hl
      refine ⟨some ⟨b, off, none⟩, l, cap, hcs, fun j hj => ?_, ⟨hle, hcap⟩, fun j hj => (hP j hj).1⟩
      have hc := (hP j hj).2
      exact ⟨b, off, rfl, hlt, hc 0 _ rfl, hc 1 _ rfl, hc 2 _ rfl⟩
set_option maxRecDepth 100000 in
theorem cells_op {m : Nat} {l : List Value} {x : DataW H × List MemPlace} (hl : l.length = 10) (h : DataW.trod enc Try.prog w base spare held m 66 l = some x) :
    ∃ o : OpV, o.Ok w ∧ l = o.cells := by
  match l, hl with
  | [c0, c1, c2, c3, c4, c5, c6, c7, c8, c9], _ =>
  obtain ⟨ys, m, _, _, _, hyl, hg⟩ := DataW.trod_struct Try.underlying66 h
  match ys, hyl with
  | [y0, y1, y2, y3, y4, y5, y6, y7], _ =>
  have g0 := hg 0 _ rfl
  have g1 := hg 1 _ rfl
  have g2 := hg 2 _ rfl
  have g3 := hg 3 _ rfl
  have g4 := hg 4 _ rfl
  have g5 := hg 5 _ rfl
  have g6 := hg 6 _ rfl
  have g7 := hg 7 _ rfl
  change DataW.trod enc Try.prog w base spare held m 3 (List.take (Try.prog.cellsOf 3) (List.drop 0 [c0, c1, c2, c3, c4, c5, c6, c7, c8, c9])) = some y0 at g0
  rw [Try.cells3] at g0
  change DataW.trod enc Try.prog w base spare held m 3 (List.take (Try.prog.cellsOf 3) (List.drop 1 [c0, c1, c2, c3, c4, c5, c6, c7, c8, c9])) = some y1 at g1
  rw [Try.cells3] at g1
  change DataW.trod enc Try.prog w base spare held m 3 (List.take (Try.prog.cellsOf 3) (List.drop 2 [c0, c1, c2, c3, c4, c5, c6, c7, c8, c9])) = some y2 at g2
  rw [Try.cells3] at g2
  change DataW.trod enc Try.prog w base spare held m 3 (List.take (Try.prog.cellsOf 3) (List.drop 3 [c0, c1, c2, c3, c4, c5, c6, c7, c8, c9])) = some y3 at g3
  rw [Try.cells3] at g3
  change DataW.trod enc Try.prog w base spare held m 37 (List.take (Try.prog.cellsOf 37) (List.drop 4 [c0, c1, c2, c3, c4, c5, c6, c7, c8, c9])) = some y4 at g4
  rw [Try.cells37] at g4
  change DataW.trod enc Try.prog w base spare held m 9 (List.take (Try.prog.cellsOf 9) (List.drop 5 [c0, c1, c2, c3, c4, c5, c6, c7, c8, c9])) = some y5 at g5
  rw [Try.cells9] at g5
  change DataW.trod enc Try.prog w base spare held m 64 (List.take (Try.prog.cellsOf 64) (List.drop 6 [c0, c1, c2, c3, c4, c5, c6, c7, c8, c9])) = some y6 at g6
  rw [Try.cells64] at g6
  change DataW.trod enc Try.prog w base spare held m 4 (List.take (Try.prog.cellsOf 4) (List.drop 9 [c0, c1, c2, c3, c4, c5, c6, c7, c8, c9])) = some y7 at g7
  rw [Try.cells4] at g7
  obtain ⟨k, e0, _, _⟩ := DataW.trod_int Try.underlying3 (cs := [c0]) g0
  obtain ⟨a, e1, _, _⟩ := DataW.trod_int Try.underlying3 (cs := [c1]) g1
  obtain ⟨id, e2, _, _⟩ := DataW.trod_int Try.underlying3 (cs := [c2]) g2
  obtain ⟨n, e3, _, k3⟩ := DataW.trod_int Try.underlying3 (cs := [c3]) g3
  obtain ⟨pA, pl, pc, rfl, hP, hm, hf⟩ := open_parts (c := c4) g4
  obtain ⟨s, e5, _, k5⟩ := DataW.trod_string Try.underlying9 (cs := [c5]) g5
  obtain ⟨eo, ew, ef, rfl, rfl, rfl⟩ := cells_event (c0 := c6) (c1 := c7) (c2 := c8) g6
  obtain ⟨v, e7, _⟩ := DataW.trod_bool Try.underlying4 (cs := [c9]) g7
  obtain rfl := (List.cons.inj e0).1
  obtain rfl := (List.cons.inj e1).1
  obtain rfl := (List.cons.inj e2).1
  obtain rfl := (List.cons.inj e3).1
  obtain rfl := (List.cons.inj e5).1
  obtain rfl := (List.cons.inj e7).1
  have k3 := bounds_i64 k3
  exact ⟨⟨k, a, id, n, pA, pl, pc, s, eo, ew, ef, v⟩, ⟨hP, hm, hf, ⟨k3.1, by show n < _; omega⟩, k5⟩, rfl⟩
theorem open_ops {m : Nat} {c : Value} {x : DataW H × List MemPlace} (h : DataW.trod enc Try.prog w base spare held m 57 [c] = some x) :
    ∃ (A : Option Addr) (n cap : Nat), c = .slice A n cap ∧ OpsAt A n w ∧ n ≤ 9223372036854775807 := by
  rcases open_slice Try.underlying57 h with ⟨hcs, _⟩ | ⟨a, len, cap, mm, fu, Dd, Pl, hcs, _, hle, hcap, hmm, _, hx⟩
  · simp at hcs
    exact ⟨none, 0, 0, hcs, fun h => absurd h (Nat.lt_irrefl _), by omega⟩
  · simp at hcs
    refine ⟨some a, len, cap, hcs, ?_, by unfold maxLen at hcap; omega⟩
    have hlm : len ≤ mm := by rw [hmm]; split <;> omega
    intro hn
    obtain ⟨b, off, rfl, hlt, hh⟩ := slice_head (a := a) (size := 10) (cells := OpV.cells) (Q := fun o => o.Ok w) (by decide) hn (fun o : OpV => rfl) (by
      intro i hi
      obtain ⟨cs', h1, h2⟩ := hx i (by omega)
      rw [Try.cells66] at h1
      obtain ⟨_, hlen, hc⟩ := World.cells?_some h1
      obtain ⟨o, ho, rfl⟩ := cells_op hlen h2
      refine ⟨o, ho, fun j u hu => ?_⟩
      have hj : j < 10 := by
        have := (List.getElem?_eq_some_iff.1 hu).1
        simpa [OpV.cells] using this
      rw [hc j hj]; exact hu)
    exact ⟨b, off, rfl, hlt, hh⟩
set_option maxRecDepth 100000 in
theorem open_world {b0 : Nat} {v : Value} {d : DataW H} {p : List MemPlace} (hv : Value.okWide Try.prog w .any b0 59 v) (h : DataW.Trod enc Try.prog w base spare held 59 v d p) :
    ∃ (b r z x y : Int) (A : Option Addr) (n cap : Nat), v = .agg #[.int .i64 b, .int .i64 r, .int .i64 z, .int .i64 x, .int .i64 y, .slice A n cap] ∧ OpsAt A n w ∧ n ≤ 9223372036854775807 := by
  obtain ⟨cs, rfl, hsize⟩ := okWide_struct Try.underlying59 hv
  obtain ⟨fuel, hf⟩ := h
  rw [Try.cells59] at hsize
  obtain ⟨l⟩ := cs
  have hl : l.length = 6 := hsize
  match l, hl with
  | [c0, c1, c2, c3, c4, c5], _ =>
  obtain ⟨ys, m, _, _, _, hyl, hg⟩ := DataW.trod_struct Try.underlying59 hf
  match ys, hyl with
  | [y0, y1, y2], _ =>
  have g0 := hg 0 _ rfl
  have g1 := hg 1 _ rfl
  have g2 := hg 2 _ rfl
  change DataW.trod enc Try.prog w base spare held m 3 (List.take (Try.prog.cellsOf 3) (List.drop 0 [c0, c1, c2, c3, c4, c5])) = some y0 at g0
  rw [Try.cells3] at g0
  change DataW.trod enc Try.prog w base spare held m 24 (List.take (Try.prog.cellsOf 24) (List.drop 1 [c0, c1, c2, c3, c4, c5])) = some y1 at g1
  rw [Try.cells24] at g1
  change DataW.trod enc Try.prog w base spare held m 57 (List.take (Try.prog.cellsOf 57) (List.drop 5 [c0, c1, c2, c3, c4, c5])) = some y2 at g2
  rw [Try.cells57] at g2
  obtain ⟨b, e0, _, _⟩ := DataW.trod_int Try.underlying3 (cs := [c0]) g0
  obtain rfl := (List.cons.inj e0).1
  obtain ⟨r, z, x, y, rfl, rfl, rfl, rfl⟩ := cells_lay (c0 := c1) (c1 := c2) (c2 := c3) (c3 := c4) g1
  obtain ⟨A, n, cap, rfl, hA, hn⟩ := open_ops (c := c5) g2
  exact ⟨b, r, z, x, y, A, n, cap, rfl, hA, hn⟩
end
end Go.Proofs.Ytbpgblmhacpjlaa
namespace Go.Proofs.Ytbpgblmhacpjlaa
open Go.Joins Go.ChangeShapes Go.WideShapes Go.ChangeAt Go.RowKit Go.Deep
open Go.ChangeMaps (open_string shut_string)

theorem Try.cells39 : Try.prog.cellsOf 39 = 7 := by kernel_rfl
/-- A turn. -/
structure TuV where
  pA : Option Addr
  pl : List IPt
  pc : Nat
  tk : Bool
  gv : Bool
  rp : Bool
  wh : Int
  wn : Int
  n : Int
def TuV.cells (t : TuV) : List Value := [.slice t.pA t.pl.length t.pc, .bool t.tk, .bool t.gv, .bool t.rp, .int .i64 t.wh, .int .i64 t.wn, .int .i64 t.n]
/-- A slice of turns that came in, nil let in. -/
def TurnsAt (A : Option Addr) (n : Nat) (w : World) : Prop := 0 < n → ∃ b off, A = some ⟨b, off, none⟩ ∧ b < w.heap.size ∧ ∀ i, i < n → ∃ t : TuV, PsAt t.pA t.pl w ∧ ∀ (j : Nat) (u : Value), t.cells[j]? = some u → w.cell? ⟨b, off + (i * 7 + j), none⟩ = some u
section
variable {H : Type} {enc : TypeId × Value → H} {w : World} {base : Nat} {spare : Nat → Bool} {held : Bool}
set_option maxRecDepth 100000 in
theorem cells_turn {m : Nat} {l : List Value} {x : DataW H × List MemPlace} (hl : l.length = 7) (h : DataW.trod enc Try.prog w base spare held m 39 l = some x) :
    ∃ t : TuV, PsAt t.pA t.pl w ∧ l = t.cells := by
  match l, hl with
  | [c0, c1, c2, c3, c4, c5, c6], _ =>
  obtain ⟨ys, m, _, _, _, hyl, hg⟩ := DataW.trod_struct Try.underlying39 h
  match ys, hyl with
  | [y0, y1, y2, y3, y4, y5, y6], _ =>
  have g0 := hg 0 _ rfl
  have g1 := hg 1 _ rfl
  have g2 := hg 2 _ rfl
  have g3 := hg 3 _ rfl
  have g4 := hg 4 _ rfl
  have g5 := hg 5 _ rfl
  have g6 := hg 6 _ rfl
  change DataW.trod enc Try.prog w base spare held m 37 (List.take (Try.prog.cellsOf 37) (List.drop 0 [c0, c1, c2, c3, c4, c5, c6])) = some y0 at g0
  rw [Try.cells37] at g0
  change DataW.trod enc Try.prog w base spare held m 4 (List.take (Try.prog.cellsOf 4) (List.drop 1 [c0, c1, c2, c3, c4, c5, c6])) = some y1 at g1
  rw [Try.cells4] at g1
  change DataW.trod enc Try.prog w base spare held m 4 (List.take (Try.prog.cellsOf 4) (List.drop 2 [c0, c1, c2, c3, c4, c5, c6])) = some y2 at g2
  rw [Try.cells4] at g2
  change DataW.trod enc Try.prog w base spare held m 4 (List.take (Try.prog.cellsOf 4) (List.drop 3 [c0, c1, c2, c3, c4, c5, c6])) = some y3 at g3
  rw [Try.cells4] at g3
  change DataW.trod enc Try.prog w base spare held m 3 (List.take (Try.prog.cellsOf 3) (List.drop 4 [c0, c1, c2, c3, c4, c5, c6])) = some y4 at g4
  rw [Try.cells3] at g4
  change DataW.trod enc Try.prog w base spare held m 3 (List.take (Try.prog.cellsOf 3) (List.drop 5 [c0, c1, c2, c3, c4, c5, c6])) = some y5 at g5
  rw [Try.cells3] at g5
  change DataW.trod enc Try.prog w base spare held m 3 (List.take (Try.prog.cellsOf 3) (List.drop 6 [c0, c1, c2, c3, c4, c5, c6])) = some y6 at g6
  rw [Try.cells3] at g6
  obtain ⟨pA, pl, pc, rfl, hP, -, -⟩ := open_parts (c := c0) g0
  obtain ⟨v1, e1, _⟩ := DataW.trod_bool Try.underlying4 (cs := [c1]) g1
  obtain ⟨v2, e2, _⟩ := DataW.trod_bool Try.underlying4 (cs := [c2]) g2
  obtain ⟨v3, e3, _⟩ := DataW.trod_bool Try.underlying4 (cs := [c3]) g3
  obtain ⟨a, e4, _, _⟩ := DataW.trod_int Try.underlying3 (cs := [c4]) g4
  obtain ⟨b, e5, _, _⟩ := DataW.trod_int Try.underlying3 (cs := [c5]) g5
  obtain ⟨c, e6, _, _⟩ := DataW.trod_int Try.underlying3 (cs := [c6]) g6
  obtain rfl := (List.cons.inj e1).1
  obtain rfl := (List.cons.inj e2).1
  obtain rfl := (List.cons.inj e3).1
  obtain rfl := (List.cons.inj e4).1
  obtain rfl := (List.cons.inj e5).1
  obtain rfl := (List.cons.inj e6).1
  exact ⟨⟨pA, pl, pc, v1, v2, v3, a, b, c⟩, hP, rfl⟩
theorem open_turns {m : Nat} {c : Value} {x : DataW H × List MemPlace} (h : DataW.trod enc Try.prog w base spare held m 22 [c] = some x) :
    ∃ (A : Option Addr) (n cap : Nat), c = .slice A n cap ∧ TurnsAt A n w ∧ n ≤ 9223372036854775807 := by
  rcases open_slice Try.underlying22 h with ⟨hcs, _⟩ | ⟨a, len, cap, mm, fu, Dd, Pl, hcs, _, hle, hcap, hmm, _, hx⟩
  · simp at hcs
    exact ⟨none, 0, 0, hcs, fun h => absurd h (Nat.lt_irrefl _), by omega⟩
  · simp at hcs
    refine ⟨some a, len, cap, hcs, ?_, by unfold maxLen at hcap; omega⟩
    have hlm : len ≤ mm := by rw [hmm]; split <;> omega
    intro hn
    obtain ⟨b, off, rfl, hlt, hh⟩ := slice_head (a := a) (size := 7) (cells := TuV.cells) (Q := fun t => PsAt t.pA t.pl w) (by decide) hn (fun t : TuV => rfl) (by
      intro i hi
      obtain ⟨cs', h1, h2⟩ := hx i (by omega)
      rw [Try.cells39] at h1
      obtain ⟨_, hlen, hc⟩ := World.cells?_some h1
      obtain ⟨t, ht, rfl⟩ := cells_turn hlen h2
      refine ⟨t, ht, fun j u hu => ?_⟩
      have hj : j < 7 := by
        have := (List.getElem?_eq_some_iff.1 hu).1
        simpa [TuV.cells] using this
      rw [hc j hj]; exact hu)
    exact ⟨b, off, rfl, hlt, hh⟩
theorem turns_at {A : Option Addr} {n c : Nat} {d : DataW H} {p : List MemPlace} (h : DataW.Trod enc Try.prog w 0 spare held 22 (.slice A n c) d p) : TurnsAt A n w ∧ n ≤ 9223372036854775807 := by
  obtain ⟨fuel, hf⟩ := h
  obtain ⟨A', n', c', e, h1, h2⟩ := open_turns (c := .slice A n c) hf
  injection e with e1 e2 e3
  subst e1 e2
  exact ⟨h1, h2⟩
end
end Go.Proofs.Ytbpgblmhacpjlaa
namespace Go.Proofs.Ytbpgblmhacpjlaa
open Go.RowKit

/-- a queue at its beginning -/
def newQ (ring size drv dev : Int) : Qs := ⟨ring.toNat, size.toNat, drv.toNat, dev.toNat, 0, true, 0, true, 0, true, 0, 0, false⟩
theorem newQ_ok {xs : List UInt8} {ring size drv dev : Int} (h : layB xs ring size drv dev = true) : (newQ ring size drv dev).Ok xs.length := by
  obtain ⟨⟨a1, a2⟩, ⟨b1, b2⟩, ⟨c1, c2⟩, d1, d2⟩ := lay_facts h
  unfold newQ
  constructor <;> simp only <;> omega
set_option maxRecDepth 100000 in
set_option maxHeartbeats 1600000 in
theorem new_good {g : Nat} (ring size drv dev : Int) (w : World)
    (HC : ∀ W, Below w.heap.size w W → Calls Try.prog 32 #[.pointer (some ⟨g, 0, none⟩), .agg #[.int .i64 ring, .int .i64 size, .int .i64 drv, .int .i64 dev]] W fun e w' => e = .returned (.int .i64 0) ∧ Below W.heap.size W w') :
    Calls Try.prog 9 #[.pointer (some ⟨g, 0, none⟩), .agg #[.int .i64 ring, .int .i64 size, .int .i64 drv, .int .i64 dev]] w fun e w' => ∃ k, e = .returned (.tuple #[.pointer (some ⟨k, 0, none⟩), .int .i64 0]) ∧ w.heap.size ≤ k ∧
      Blk w' k 92 #[.pointer (some ⟨g, 0, none⟩), .int .i64 ring, .int .i64 size, .int .i64 drv, .int .i64 dev, .int .i64 0, .bool true, .int .i64 0, .bool true, .int .i64 0, .int .i64 0, .bool true, .int .i64 0, .bool false] ∧ Below w.heap.size w w' := by
  have HC := Lib.hid HC
  have hb1 := ba (Below.refl w.heap.size w) (.cells #[.int .i64 ring, .int .i64 size, .int .i64 drv, .int .i64 dev] 24)
  have HB := Lib.hid hb1
  have k0 := Blk.new w 24 #[.int .i64 ring, .int .i64 size, .int .i64 drv, .int .i64 dev]
  go_enter Try.func9, Try.ntmps9
  go_wp2_with fail
  refine (HC.out _ HB.out).mono ?_
  rintro e w1 ⟨rfl, hq⟩
  have H1 := Lib.hid (b0 HB.out hq)
  have k1 := k0.same (hq.block _ k0.lt)
  obtain ⟨c0, c1, c2, c3, -, -, -, -⟩ := blk4 k1
  have hl1 := k1.lt
  have hn1 := Nat.ne_of_lt hl1
  have hle := H1.out.size
  have HL := Lib.hid hle
  clear hq hb1 k0 k1 hle
  go_wp2_with fail
  go_ret2
  refine ⟨w1.heap.size + 1, rfl, by have := HL.out; omega, Sp.Blk.new2 _ _ _ _, ba (ba H1.out _) _⟩
def NewP (xs : List UInt8) (g : Nat) (ring size drv dev : Int) (w : World) (e : Ending) (w' : World) : Prop :=
  Below w.heap.size w w' ∧ if layB xs ring size drv dev then ∃ k, e = .returned (.tuple #[.pointer (some ⟨k, 0, none⟩), .int .i64 0]) ∧ w.heap.size ≤ k ∧ Blk w' k 92 ((newQ ring size drv dev).cells g)
  else e = .returned (.tuple #[.pointer none, .int .i64 140])
end Go.Proofs.Ytbpgblmhacpjlaa
namespace Go.Proofs.Ytbpgblmhacpjlaa
open Go.RowKit

theorem layB_len {xs ys : List UInt8} (h : xs.length = ys.length) (r z x y : Int) : layB xs r z x y = layB ys r z x y := by
  unfold layB fitsB mayB
  rw [h]
theorem lay_both {n : Nat} (h1 : 1 ≤ n) (h2 : n ≤ 32) {xs : List UInt8} (hx : xs.length = 1024) : layB xs 0 (n : Int) 512 516 = true := by
  have key : ∀ m : Fin 33, 1 ≤ m.val → layB (List.replicate 1024 0) 0 (m.val : Int) 512 516 = true := by decide +kernel
  rw [layB_len (ys := List.replicate 1024 0) (by rw [hx, List.length_replicate])]
  exact key ⟨n, by omega⟩ h1
/-- the device's New -/
theorem dvnew_v {F : Nat → Prop} {w : World} {g n : Nat} {xs : List UInt8} (h : (memA g xs).P F w) (k : layB xs 0 (n : Int) 512 516 = true) :
    Calls Try.prog 9 #[.pointer (some ⟨g, 0, none⟩), .agg #[.int .i64 0, .int .i64 (n : Int), .int .i64 512, .int .i64 516]] w fun e w' => ∃ gd, e = .returned (.tuple #[.pointer (some ⟨gd, 0, none⟩), .int .i64 0]) ∧ (devA gd g ⟨0, n, 512, 516, 0, true, 0, true, 0, true, 0, 0, false⟩).P (fun k => k = gd) w' ∧ w.heap.size ≤ gd ∧ Below w.heap.size w w' := by
  obtain ⟨gb, lv, hM, -⟩ := h
  refine (new_good 0 (n : Int) 512 516 w (fun W hb => ?_)).mono fun e w' ⟨gd, h1, h2, h3, h4⟩ => ⟨gd, h1, ⟨h3, fun _ => Iff.rfl⟩, h2, h4⟩
  have hc := check_any (hM.below hb (Nat.le_refl _)) 0 (n : Int) 512 516
  unfold layE at hc
  rw [k] at hc
  exact hc
theorem ipt_pt {l : List IPt} (h : InM l) : iptCells l = ptCells (l.map IPt.pt) := by
  induction l with
  | nil => rfl
  | cons a r ih =>
    have h0 := h 0 (by simp)
    have hr : InM r := fun j hj => h (j + 1) (by simpa using hj)
    have e : a.cells = a.pt.cells := by
      obtain ⟨a1, n1, v1⟩ := a
      have h0 : 0 ≤ a1 ∧ a1 ≤ 1048576 ∧ 0 ≤ n1 ∧ n1 ≤ 1048576 := h0
      unfold IPt.cells Pt.cells IPt.pt
      simp only
      rw [Int.toNat_of_nonneg h0.1, Int.toNat_of_nonneg h0.2.2.1]
    show a.cells ++ iptCells r = a.pt.cells ++ ptCells (r.map IPt.pt)
    rw [e, ih hr]
theorem ce_one1 (e : Ce) : ∀ u ∈ e.cells, u.oneCell' = true := by rw [← ceCells_one]; exact ce_one [e]
def idsV (G : List Gv) : List Value := G.map fun g => .int .i64 (g.id : Int)
def wrsV (G : List Gv) : List Value := G.map fun g => .int .i64 (g.wr : Int)
theorem idsV_snoc (G : List Gv) (g : Gv) : idsV (G ++ [g]) = idsV G ++ [.int .i64 (g.id : Int)] := by simp [idsV]
theorem wrsV_snoc (G : List Gv) (g : Gv) : wrsV (G ++ [g]) = wrsV G ++ [.int .i64 (g.wr : Int)] := by simp [wrsV]
/-- where a turn stands -/
def BtL (g gq gd : Nat) (xs : List UInt8) (q : Vs) (z : Qs) (P T : List Ce) (G : List Gv) (A1 A2 A3 A4 : Option Addr) (c1 c2 c3 c4 : Nat) : List As :=
  [rowC 3 (.slice A1 P.length c1) P.length (ceCells P), ptsA P, rowC 3 (.slice A2 T.length c2) T.length (ceCells T), rowC 1 (.slice A3 G.length c3) G.length (idsV G), rowC 1 (.slice A4 G.length c4) G.length (wrsV G), memA g xs, drvA gq g q, devA gd g z]
def BtS (n : Nat) (w : World) (g gq gd k kz : Nat) (P T : List Ce) (G : List Gv) (A1 A2 A3 A4 : Option Addr) (c1 c2 c3 c4 : Nat) (B : List As) (wr : World) : Prop :=
  ∃ (xs : List UInt8) (q : Vs) (z : Qs) (b : Nat), Both n xs q z (P.map Ce.c) (T.map Ce.c) G b ∧ q.since ≤ 5 * k ∧ z.since ≤ 64 * kz ∧ St (fun _ => False) w (stars (B ++ BtL g gq gd xs q z P T G A1 A2 A3 A4 c1 c2 c3 c4)) wr
/-- four rows without anything, ahead of the rest -/
theorem St.start5 {w wr : World} {g gq gd : Nat} {xs : List UInt8} {q : Vs} {z : Qs} (h : St (fun _ => False) w (stars [memA g xs, drvA gq g q, devA gd g z]) wr) (a1 a2 a3 a4 : Addr) :
    St (fun _ => False) w (stars ([] ++ BtL g gq gd xs q z [] [] [] (some a1) (some a2) (some a3) (some a4) 0 0 0 0)) wr := by
  have h1 := (((h.pushC0 1 a4).pushC0 1 a3).pushC0 3 a2)
  have h2 : St (fun _ => False) w (stars (ptsA [] :: [rowC 3 (.slice (some a2) 0 0) 0 [], rowC 1 (.slice (some a3) 0 0) 0 [], rowC 1 (.slice (some a4) 0 0) 0 [], memA g xs, drvA gq g q, devA gd g z])) wr :=
    h1.add (B := ptsA []) (F := fun _ => False) (Below.refl _ _) (fun _ e => e) (fun k e => e.elim)
  exact h2.pushC0 3 a1
/-- the one at the front in the place of the one at j -/
theorem St.swapIn {F0 : Nat → Prop} {w0 w : World} {A : As} {l : List As} (h : St F0 w0 (stars (A :: l)) w) (j : Nat) (hj : j < l.length) : St F0 w0 (stars (l.set j A)) w := by
  have h2 : St F0 w0 (sep A (stars (l.eraseIdx j))) w := h.weak fun F e => by
    obtain ⟨F1, F2, hF, hd, a, b⟩ := sep_mono e (fun _ x => x) (fun F x => stars_pull l j hj F x)
    obtain ⟨F3, F4, hF2, hd2, -, b2⟩ := b
    exact ⟨fun k => F1 k ∨ F4 k, ⟨F1, F4, fun _ => Iff.rfl, fun k e1 e2 => hd k e1 ((hF2 k).2 (.inr e2)), a, b2⟩, fun k hk => by
      rcases hk with e | e
      · exact (hF k).2 (.inl e)
      · exact (hF k).2 (.inr ((hF2 k).2 (.inr e)))⟩
  exact h2.mono fun F e => stars_back l j hj A F e
/-- a row that begins anywhere among many things -/
theorem stars_hasRowC : ∀ (l : List As) (m : Nat) (hm : m < l.length) {size n b off cap : Nat} {xs : List Value} (_ : l[m] = rowC size (.slice (some ⟨b, off, none⟩) n cap) n xs) (_ : 0 < n) {F : Nat → Prop} {w : World}, (stars l).P F w → F b
  | A :: l, 0, _, size, n, b, off, cap, xs, e, hn, F, w, ⟨F1, F2, hF, _, a, _⟩ => by
    have e : A = _ := e
    subst e
    obtain ⟨hm, b', off', hc, hF1⟩ := rowC_came a
    have hle := hc.le
    have hb := hc.addr (by omega)
    injection hb with hb
    injection hb with e1 e2 e3
    subst e1
    exact (hF _).2 (.inl ((hF1 _).2 ⟨by omega, rfl⟩))
  | A :: l, m + 1, hm, size, n, b, off, cap, xs, e, hn, F, w, ⟨F1, F2, hF, _, _, h⟩ => (hF b).2 (.inr (stars_hasRowC l m (by simpa using hm) e hn h))
/-- what a region reads: a chain in a variable, a chain at a row's head -/
def BsF (w : World) (K b2 off2 : Nat) (ce : Ce) (A5 : Option Addr) (cap5 : Nat) (W : World) : Prop :=
  ((W.cell? ⟨K, 0, none⟩ = some (.int .i64 (ce.c.id : Int)) ∧ W.cell? ⟨K, 1, none⟩ = some (.int .i64 (ce.c.ps.length : Int)) ∧ W.cell? ⟨K, 2, none⟩ = some (.slice A5 ce.c.ps.length cap5)) ∧ W.cell? ⟨b2, off2, none⟩ = some (.int .i64 (ce.c.id : Int)) ∧ W.cell? ⟨b2, off2 + 1, none⟩ = some (.int .i64 (ce.c.ps.length : Int)) ∧ W.cell? ⟨b2, off2 + 2, none⟩ = some (.slice ce.A ce.c.ps.length ce.cap)) ∧ (K < W.heap.size ∧ b2 < W.heap.size) ∧ ∃ l, St (fun _ => False) w (stars l) W
theorem BsF.of {w W W' : World} {K b2 off2 : Nat} {ce : Ce} {A5 : Option Addr} {cap5 : Nat} {l : List As} (h : (W.cell? ⟨K, 0, none⟩ = some (.int .i64 (ce.c.id : Int)) ∧ W.cell? ⟨K, 1, none⟩ = some (.int .i64 (ce.c.ps.length : Int)) ∧ W.cell? ⟨K, 2, none⟩ = some (.slice A5 ce.c.ps.length cap5)) ∧ W.cell? ⟨b2, off2, none⟩ = some (.int .i64 (ce.c.id : Int)) ∧ W.cell? ⟨b2, off2 + 1, none⟩ = some (.int .i64 (ce.c.ps.length : Int)) ∧ W.cell? ⟨b2, off2 + 2, none⟩ = some (.slice ce.A ce.c.ps.length ce.cap))
    (l1 : K < W.heap.size) (l2 : b2 < W.heap.size) (hb : Below W.heap.size W W') (hS : St (fun _ => False) w (stars l) W') : BsF w K b2 off2 ce A5 cap5 W' := by
  obtain ⟨⟨c0, c1, c2⟩, c3, c4, c5⟩ := h
  have e1 : ∀ i, W'.cell? ⟨K, i, none⟩ = W.cell? ⟨K, i, none⟩ := fun i => hb.cell (p := ⟨K, i, none⟩) l1
  have e2 : ∀ i, W'.cell? ⟨b2, i, none⟩ = W.cell? ⟨b2, i, none⟩ := fun i => hb.cell (p := ⟨b2, i, none⟩) l2
  have hs := hb.size
  exact ⟨⟨⟨(e1 _).trans c0, (e1 _).trans c1, (e1 _).trans c2⟩, (e2 _).trans c3, (e2 _).trans c4, (e2 _).trans c5⟩, ⟨by omega, by omega⟩, l, hS⟩
theorem BsF.below {w W W' : World} {K b2 off2 : Nat} {ce : Ce} {A5 : Option Addr} {cap5 : Nat} (h : BsF w K b2 off2 ce A5 cap5 W) (hb : Below W.heap.size W W') : BsF w K b2 off2 ce A5 cap5 W' := by
  obtain ⟨hc, ⟨l1, l2⟩, l, hS⟩ := h
  exact BsF.of hc l1 l2 hb (hS.below hb)
/-- what was taken: off the one row, onto the other -/
theorem bt_took {w wr : World} {g gq gd : Nat} {xs : List UInt8} {q : Vs} {z : Qs} {P T : List Ce} {G : List Gv} {ce : Ce} {A5 A6 A3 A4 : Option Addr} {cap5 cap6 c1 c3 c4 b2 off2 : Nat} {X Y Z : As}
    (h : St (fun _ => False) w (stars (X :: Y :: Z :: [rowC 3 (.slice (some ⟨b2, off2, none⟩) (P.length + 1) c1) (P.length + 1) (ceCells (ce :: P)), ptsA (ce :: P), rowC 3 (.slice A6 (T.length + 1) cap6) (T.length + 1) (ceCells T ++ [.int .i64 (ce.c.id : Int), .int .i64 (ce.c.ps.length : Int), .slice A5 ce.c.ps.length cap5]), rowC 1 (.slice A3 G.length c3) G.length (idsV G), rowC 1 (.slice A4 G.length c4) G.length (wrsV G), memA g xs, drvA gq g q, devA gd g z])) wr) (A' : Option Addr) (hA : 0 < c1 - 1 → A' = some ⟨b2, off2 + 3, none⟩) :
    St (fun _ => False) w (stars ([Z] ++ BtL g gq gd xs q z P (T ++ [⟨ce.c, A5, cap5⟩]) G A' A6 A3 A4 (c1 - 1) cap6 c3 c4)) wr := by
  have h1 := St.pop (St.pop h)
  have h2 := h1.tail 1 (by simp) rfl A' hA
  rw [ceCells_drop] at h2
  have h3 := h2.less 2 (by simp) (ptsA P) (fun F e => ptsA_tail e)
  unfold BtL
  have e1 : (T ++ [(⟨ce.c, A5, cap5⟩ : Ce)]).length = T.length + 1 := by simp
  rw [e1, ceCells_append, ceCells_one]
  exact h3
/-- what was reaped: off both rows -/
theorem bt_reaped {w wr : World} {g gq gd : Nat} {xs : List UInt8} {q : Vs} {z : Qs} {P T : List Ce} {G : List Gv} {gv : Gv} {A1 A2 : Option Addr} {c1 c2 c3 c4 b3 o3 b4 o4 : Nat} {Z : As}
    (h : St (fun _ => False) w (stars ([Z] ++ BtL g gq gd xs q z P T (gv :: G) A1 A2 (some ⟨b3, o3, none⟩) (some ⟨b4, o4, none⟩) c1 c2 c3 c4)) wr) (A3 A4 : Option Addr) (h3 : 0 < c3 - 1 → A3 = some ⟨b3, o3 + 1, none⟩) (h4 : 0 < c4 - 1 → A4 = some ⟨b4, o4 + 1, none⟩) :
    St (fun _ => False) w (stars ([Z] ++ BtL g gq gd xs q z P T G A1 A2 A3 A4 c1 c2 (c3 - 1) (c4 - 1))) wr := by
  have h : St (fun _ => False) w (stars [Z, rowC 3 (.slice A1 P.length c1) P.length (ceCells P), ptsA P, rowC 3 (.slice A2 T.length c2) T.length (ceCells T), rowC 1 (.slice (some ⟨b3, o3, none⟩) (G.length + 1) c3) (G.length + 1) (idsV (gv :: G)), rowC 1 (.slice (some ⟨b4, o4, none⟩) (G.length + 1) c4) (G.length + 1) (wrsV (gv :: G)), memA g xs, drvA gq g q, devA gd g z]) wr := h
  have h2 := h.tail 4 (by simp) rfl A3 h3
  exact h2.tail 5 (by simp) rfl A4 h4
/-- a chain in a row, as Done is asked of it -/
def DnF (w : World) (b2 o : Nat) (ce : Ce) (W : World) : Prop := (W.cell? ⟨b2, o, none⟩ = some (.int .i64 (ce.c.id : Int)) ∧ W.cell? ⟨b2, o + 1, none⟩ = some (.int .i64 (ce.c.ps.length : Int))) ∧ ∃ l, St (fun _ => False) w (stars l) W
theorem DnF.of {w W : World} {l : List As} (h : St (fun _ => False) w (stars l) W) (i : Nat) (hi : i < l.length) {b2 off2 c2 kk : Nat} {T : List Ce} {ce : Ce} (he : l[i] = rowC 3 (.slice (some ⟨b2, off2, none⟩) T.length c2) T.length (ceCells T)) (hk : kk < T.length) (hce : T[kk] = ce) : DnF w b2 (off2 + kk * 3) ce W := by
  obtain ⟨b, off, hA, -, -, hcs⟩ := h.rowc i hi he (by omega)
  injection hA with hA
  injection hA with e1 e2 e3
  subst e1 e2
  obtain ⟨x0, x1, -⟩ := ceCells_at T kk hk
  rw [hce] at x0 x1
  have y0 := hcs _ _ x0
  have y1 := hcs _ _ x1
  rw [← Nat.add_assoc] at y1
  exact ⟨⟨y0, y1⟩, l, h⟩
theorem map_erase : ∀ (T : List Ce) (k : Nat), (T.map Ce.c).eraseIdx k = (T.eraseIdx k).map Ce.c
  | [], _ => rfl
  | _ :: _, 0 => rfl
  | a :: T, k + 1 => by
    have := map_erase T k
    simp only [List.map_cons, List.eraseIdx_cons_succ, this]
theorem bt_given {w wr : World} {g gq gd : Nat} {xs : List UInt8} {q : Vs} {z : Qs} {P T : List Ce} {G : List Gv} {ce : Ce} {Y : Nat} {A1 A9 A6 A7 : Option Addr} {c1 cap9 cap6 cap7 : Nat} {Z : As}
    (h : St (fun _ => False) w (stars [Z, rowC 3 (.slice A1 P.length c1) P.length (ceCells P), ptsA P, rowC 3 (.slice A9 T.length cap9) T.length (ceCells T), rowC 1 (.slice A6 (G.length + 1) cap6) (G.length + 1) (idsV G ++ [.int .i64 (ce.c.id : Int)]), rowC 1 (.slice A7 (G.length + 1) cap7) (G.length + 1) (wrsV G ++ [.int .i64 (Y : Int)]), memA g xs, drvA gq g q, devA gd g z]) wr) :
    St (fun _ => False) w (stars ([Z] ++ BtL g gq gd xs q z P T (G ++ [⟨ce.c.id, ce.c.ps.length, Y⟩]) A1 A9 A6 A7 c1 cap9 cap6 cap7)) wr := by
  unfold BtL
  have e1 : (G ++ [(⟨ce.c.id, ce.c.ps.length, Y⟩ : Gv)]).length = G.length + 1 := by simp
  rw [e1, idsV_snoc, wrsV_snoc]
  exact h
theorem St.rowcAddr {F0 : Nat → Prop} {w0 w : World} {l : List As} (h : St F0 w0 (stars l) w) (i : Nat) (hi : i < l.length) {size n cap : Nat} {A : Option Addr} {xs : List Value} (he : l[i] = rowC size (.slice A n cap) n xs) (hc : 0 < cap) : ∃ b off, A = some ⟨b, off, none⟩ := by
  obtain ⟨F, hA⟩ := h.get i hi
  rw [he] at hA
  obtain ⟨-, b, off, hcm, -⟩ := rowC_came hA
  exact ⟨b, off, hcm.addr hc⟩
/-- the last of many things -/
theorem St.suffix {F0 : Nat → Prop} {w0 w : World} (l1 l2 : List As) (h : St F0 w0 (stars (l1 ++ l2)) w) : ∃ F, (stars l2).P F w ∧ (∃ F2, (stars l1).P F2 w ∧ ∀ k, F k → ¬ F2 k) ∧ ∀ (A' : As) (w' : World), St F w A' w' → St F0 w0 (sep A' (stars l1)) w' := by
  obtain ⟨F, hA, -, hr, hb⟩ := St.cally (h.mono fun _ e => sep_comm (stars_cat l1 l2 e))
  exact ⟨F, hA, hr, hb⟩
/-- the turn's box and the rest -/
theorem BtS.boxed {n : Nat} {w wr : World} {g gq gd k kz : Nat} {P T : List Ce} {G : List Gv} {A1 A2 A3 A4 : Option Addr} {c1 c2 c3 c4 : Nat} (h : BtS n w g gq gd k kz P T G A1 A2 A3 A4 c1 c2 c3 c4 [] wr) (t : TypeId) (cs : Array Value) :
    BtS n w g gq gd k kz P T G A1 A2 A3 A4 c1 c2 c3 c4 [box wr.heap.size t cs] (wr.alloc (.cells cs t)) := by
  obtain ⟨xs, q, z, b, hB, h1, h2, hS⟩ := h
  exact ⟨xs, q, z, b, hB, h1, h2, hS.push t cs⟩
theorem BtS.blk {n : Nat} {w wr : World} {g gq gd k kz : Nat} {P T : List Ce} {G : List Gv} {A1 A2 A3 A4 : Option Addr} {c1 c2 c3 c4 K : Nat} {t : TypeId} {cs : Array Value} (h : BtS n w g gq gd k kz P T G A1 A2 A3 A4 c1 c2 c3 c4 [box K t cs] wr) : Blk wr K t cs := by
  obtain ⟨xs, q, z, b, hB, h1, h2, hS⟩ := h
  exact hS.blk 0 (by simp) rfl
theorem BtS.law {n : Nat} {w wr : World} {g gq gd k kz : Nat} {P T : List Ce} {G : List Gv} {A1 A2 A3 A4 : Option Addr} {c1 c2 c3 c4 : Nat} {B : List As} (h : BtS n w g gq gd k kz P T G A1 A2 A3 A4 c1 c2 c3 c4 B wr) : Below w.heap.size w wr := by
  obtain ⟨xs, q, z, b, hB, h1, h2, hS⟩ := h
  exact hS.law
theorem BtS.next {n : Nat} {w wr : World} {g gq gd k kz : Nat} {P T : List Ce} {G : List Gv} {A1 A2 A3 A4 : Option Addr} {c1 c2 c3 c4 : Nat} {B : List As} (h : BtS n w g gq gd k kz P T G A1 A2 A3 A4 c1 c2 c3 c4 B wr) {wx : World} (hb : Below wr.heap.size wr wx) : BtS n w g gq gd k kz P T G A1 A2 A3 A4 c1 c2 c3 c4 B wx := by
  obtain ⟨xs, q, z, b, hB, h1, h2, hS⟩ := h
  exact ⟨xs, q, z, b, hB, h1, h2, hS.below hb⟩
theorem BtS.lens {n : Nat} {w wr : World} {g gq gd k kz : Nat} {P T : List Ce} {G : List Gv} {A1 A2 A3 A4 : Option Addr} {c1 c2 c3 c4 : Nat} {B : List As} (h : BtS n w g gq gd k kz P T G A1 A2 A3 A4 c1 c2 c3 c4 B wr) : P.length ≤ 32 ∧ T.length ≤ 32 ∧ G.length ≤ 32 := by
  obtain ⟨xs, q, z, b, hB, h1, h2, hS⟩ := h
  have h3 := szs_le hB
  have h4 := hB.n2
  rw [List.length_map, List.length_map] at h3
  omega
end Go.Proofs.Ytbpgblmhacpjlaa
