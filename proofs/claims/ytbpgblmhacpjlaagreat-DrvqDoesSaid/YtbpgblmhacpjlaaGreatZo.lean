/-
  The device's event; Ask.
-/
import Derived.Test.YtbpgblmhacpjlaaGreatZj
import Derived.Test.YtbpgblmhacpjlaaGreatZi
import Derived.Test.YtbpgblmhacpjlaaGreatSSev
import Derived.Test.YtbpgblmhacpjlaaGreatZl
import Derived.Deep.RegionHeld3
import Derived.BigQuiet
import Derived.Test.YtbpgblmhacpjlaaGreatSVg
namespace Go.Proofs.YtbpgblmhacpjlaaGreat
open Go.RowKit

def cut4 (xs : List UInt8) (n : Nat) : ByteArray := ⟨((xs.drop n).take 4).toArray⟩
theorem cut4_size (xs : List UInt8) (n : Nat) (h : n + 4 ≤ xs.length) : (cut4 xs n).size = 4 := by
  show ((xs.drop n).take 4).toArray.size = 4
  simp; omega
theorem ev_results (f : Func) (w : World) (tmps : Array Value) (t : Tmp) (gf : Nat) (hf : f.results = #[.cell t 34]) (h : tmps[t]?.getD undef = .pointer (some ⟨gf, 0, none⟩)) (a b d : Value)
    (hF : Blk w gf 34 #[a, b, d]) : (results f tmps).run Tryz.prog w = .ok (.agg #[a, b, d]) w := by
  have c0 := hF.cell 0
  have c1 := hF.cell 1
  have c2 := hF.cell 2
  simp only [List.getElem?_toArray, List.getElem?_cons_zero, List.getElem?_cons_succ] at c0 c1 c2
  simp [results, hf, go_sem, h, c0, c1, c2]
theorem ev_cells {F : Nat → Prop} {w W : World} {k g gq : Nat} {xs : List UInt8} {e cs : Array Value} {a b : Value} (h : St F w (stars [box k 34 e, memA g xs, box gq 77 cs]) W) (hc : Hid (cs[0]? = some a ∧ cs[4]? = some b)) :
    W.cell? ⟨gq, 0, none⟩ = some a ∧ W.cell? ⟨gq, 4, none⟩ = some b := by
  have hb := h.blk 2 (by simp) rfl
  exact ⟨(hb.cell 0).trans hc.out.1, (hb.cell 4).trans hc.out.2⟩
theorem St.put3 {F0 : Nat → Prop} {w0 w : World} {l : List As} (h : St F0 w0 (stars l) w) (i : Nat) (hi : i < l.length) {g : Nat} {t : TypeId} {a b c : Value} (hl : l[i] = box g t #[a, b, c]) (p q r : Value) :
    St F0 w0 (stars (l.set i (box g t #[p, q, r]))) (((w.setCell ⟨g, 0, none⟩ p).setCell ⟨g, 1, none⟩ q).setCell ⟨g, 2, none⟩ r) := by
  have h1 := h.put i hi hl 0 p
  have h2 := h1.put i (by simpa using hi) (by rw [List.getElem_set_self]) 1 q
  have h3 := h2.put i (by simpa using hi) (by rw [List.getElem_set_self]) 2 r
  simpa [List.set_set] using h3
set_option maxRecDepth 100000 in
set_option maxHeartbeats 1600000 in
theorem event_v {F : Nat → Prop} {w : World} {gq g dev : Nat} {xs : List UInt8} {cs : Array Value} (h : (stars [memA g xs, box gq 77 cs]).P F w) (h0 : cs[0]? = some (.pointer (some ⟨g, 0, none⟩))) (h4 : cs[4]? = some (.int .i64 (dev : Int))) (hn : dev + 4 ≤ xs.length) :
    Calls Tryz.prog 43 #[.pointer (some ⟨gq, 0, none⟩)] w fun e w' => e = .returned (.agg #[.int .i64 (Sp.paO (cut4 xs dev)), .bool (Sp.paW (cut4 xs dev)), .int .i64 (Sp.paF (cut4 xs dev))]) ∧ St F w (stars [memA g xs, box gq 77 cs]) w' := by
  have HP := fun W => Sp.parse_any (cut4 xs dev) W
  have hz := cut4_size xs dev hn
  have e0 : Sp.paE (cut4 xs dev) = 0 := by unfold Sp.paE; rw [if_pos hz]
  rw [e0] at HP
  unfold Sp.RP at HP
  have HR : ∀ W, St F w (stars [box w.heap.size 34 #[.int .i64 0, .bool false, .int .i64 0], memA g xs, box gq 77 cs]) W → Calls Tryz.prog 58 #[.pointer (some ⟨g, 0, none⟩), .int .i64 (dev : Int), .int .i64 4] W fun e w' => e = .returned (.tuple #[.string (cut4 xs dev), .int .i64 0]) ∧ St F w (stars [box w.heap.size 34 #[.int .i64 0, .bool false, .int .i64 0], memA g xs, box gq 77 cs]) w' := fun W hW => by
    obtain ⟨F1, hA, hb⟩ := hW.at 1 (by simp)
    exact (memA_read hA dev 4 hn).mono fun _ _ ⟨he, hs⟩ => ⟨he, hb _ _ hs⟩
  generalize Sp.paO (cut4 xs dev) = o at *
  generalize Sp.paW (cut4 xs dev) = v at *
  generalize Sp.paF (cut4 xs dev) = f at *
  generalize cut4 xs dev = S at *
  have HP := Lib.hid HP
  have HR := Lib.hid HR
  have S0 := St.start h
  have hb := S0.blk 1 (by simp) rfl
  have hlt := hb.lt
  have hne := Nat.ne_of_lt hlt
  have HC := Lib.hid (And.intro h0 h4)
  have S1 := Lib.hid (S0.push 34 #[.int .i64 0, .bool false, .int .i64 0]).drew
  clear h S0 hb h0 h4 hz e0 hn
  go_enter Tryz.func43, Tryz.ntmps43
  go_wp2_with fail
  go_region_held3 (fun W => W.cell? ⟨gq, 0, none⟩ = some (.pointer (some ⟨g, 0, none⟩)) ∧ W.cell? ⟨gq, 4, none⟩ = some (.int .i64 (dev : Int)))
    (with_reducible (first | exact ev_cells S1.out HC | exact ev_cells S2 HC))
    ((go_at_call 58; ((with_reducible refine (HR.out _ S1.out).mono ?_); rintro e w1 ⟨rfl, S2⟩)))
  have S2 := Lib.hid S2
  clear S1 hlt hne HR
  go_wp2_with fail
  refine (HP.out _).mono ?_
  rintro e w2 ⟨rfl, hq⟩
  have S3 := S2.out.below hq
  have k2 := S3.blk 0 (by simp) rfl
  have f0 := k2.frozen 0
  have f1 := k2.frozen 1
  have f2 := k2.frozen 2
  have c0 := k2.cell 0
  have c1 := k2.cell 1
  have c2 := k2.cell 2
  simp only [List.getElem?_toArray, List.getElem?_cons_zero, List.getElem?_cons_succ] at c0 c1 c2
  have hl2 := k2.lt
  have hn2 := Nat.ne_of_lt hl2
  have S4 := (St.put3 S3 0 (by simp) rfl (.int .i64 o) (.bool v) (.int .i64 f)).alloc (.cells #[.int .i64 o, .bool v, .int .i64 f] 34)
  have S4 := Lib.hid S4
  clear S2 S3 k2 hq HC
  go_wp2_with fail
  refine bodyPost_ret (v := .agg #[.int .i64 o, .bool v, .int .i64 f]) (ev_results _ _ _ 2 w.heap.size rfl rfl _ _ _ ?_) rfl ⟨rfl, ?_⟩
  · exact S4.out.blk 0 (by simp) rfl
  · exact S4.out.pop
end Go.Proofs.YtbpgblmhacpjlaaGreat
namespace Go.Proofs.YtbpgblmhacpjlaaGreat
open Go.RowKit

/-- Ask: the error, the bytes -/
def askX (xs : List UInt8) (q : Vs) (o : Int) (v : Bool) (f : Int) : List UInt8 := if Sp.buE o f = 0 then over xs q.drv (Sp.buS o v f) else xs
theorem Sp.buS_size (o : Int) (v : Bool) (f : Int) : (Sp.buS o v f).size ≤ 4 := by
  unfold Sp.buS
  split
  · unfold Sp.evB
    rw [ByteArray.size_append]
    have e1 : ∀ n, (Sp.pb n 2).size = 2 := fun n => by
      show (digs n 2).toArray.size = 2
      simp [digs_length]
    rw [e1, e1]
    exact Nat.le_refl _
  · exact Nat.zero_le _
theorem askX_length {xs : List UInt8} {q : Vs} (hq : q.Ok xs.length) (o f : Int) (v : Bool) : (askX xs q o v f).length = xs.length := by
  unfold askX
  split
  · exact over_length _ _ _ (by have := hq.drv; have := Sp.buS_size o v f; omega)
  · rfl
theorem ask_cells {F : Nat → Prop} {w W : World} {k g gq : Nat} {e cs : Array Value} {A : As} {a b : Value} (h : St F w (stars [box k 34 e, A, box gq 77 cs]) W) (hc : Hid (cs[0]? = some a ∧ cs[3]? = some b)) :
    W.cell? ⟨gq, 0, none⟩ = some a ∧ W.cell? ⟨gq, 3, none⟩ = some b := by
  have _ := g
  have hb := h.blk 2 (by simp) rfl
  exact ⟨(hb.cell 0).trans hc.out.1, (hb.cell 3).trans hc.out.2⟩
set_option maxRecDepth 100000 in
set_option maxHeartbeats 1600000 in
theorem ask_bad {F : Nat → Prop} {w : World} {gq : Nat} {cs : Array Value} {A : As} (h : (stars [A, box gq 77 cs]).P F w) (o f : Int) (v : Bool) (E : Int) (S : ByteArray) (hE : (E != 0) = true)
    (HB : ∀ W, Calls Tryz.prog 47 #[.agg #[.int .i64 o, .bool v, .int .i64 f]] W fun e w' => e = .returned (.tuple #[.string S, .int .i64 E]) ∧ Below W.heap.size W w') :
    Calls Tryz.prog 15 #[.pointer (some ⟨gq, 0, none⟩), .agg #[.int .i64 o, .bool v, .int .i64 f]] w fun e w' => e = .returned (.int .i64 E) ∧ St F w (stars [A, box gq 77 cs]) w' := by
  have S0 := St.start h
  have hb := S0.blk 1 (by simp) rfl
  have hlt := hb.lt
  have hne := Nat.ne_of_lt hlt
  have HB := Lib.hid HB
  have S1 := Lib.hid (S0.alloc (.cells #[.int .i64 o, .bool v, .int .i64 f] 34))
  clear h S0 hb
  go_enter Tryz.func15, Tryz.ntmps15
  go_wp2_with fail
  refine (HB.out _).mono ?_
  rintro e w1 ⟨rfl, hq⟩
  have S2 := Lib.hid (S1.out.below hq)
  clear hq
  go_wp2_with fail
  go_ret
  exact ⟨rfl, S2.out⟩
set_option maxRecDepth 100000 in
set_option maxHeartbeats 1600000 in
theorem ask_good {F : Nat → Prop} {w : World} {gq g drv : Nat} {xs : List UInt8} {cs : Array Value} (h : (stars [memA g xs, box gq 77 cs]).P F w) (h0 : cs[0]? = some (.pointer (some ⟨g, 0, none⟩))) (h3 : cs[3]? = some (.int .i64 (drv : Int))) (o f : Int) (v : Bool) (S : ByteArray) (hS : drv + S.size ≤ xs.length)
    (HB : ∀ W, Calls Tryz.prog 47 #[.agg #[.int .i64 o, .bool v, .int .i64 f]] W fun e w' => e = .returned (.tuple #[.string S, .int .i64 0]) ∧ Below W.heap.size W w') :
    Calls Tryz.prog 15 #[.pointer (some ⟨gq, 0, none⟩), .agg #[.int .i64 o, .bool v, .int .i64 f]] w fun e w' => e = .returned (.int .i64 0) ∧ St F w (stars [memA g (over xs drv S), box gq 77 cs]) w' := by
  have S0 := St.start h
  have hb := S0.blk 1 (by simp) rfl
  have hlt := hb.lt
  have hne := Nat.ne_of_lt hlt
  have HB := Lib.hid HB
  have HC := Lib.hid (And.intro h0 h3)
  obtain ⟨K, hK⟩ : ∃ K, w.heap.size = K := ⟨_, rfl⟩
  have HW : ∀ W, St F w (stars [box K 34 #[.int .i64 o, .bool v, .int .i64 f], memA g xs, box gq 77 cs]) W → Calls Tryz.prog 10 #[.pointer (some ⟨g, 0, none⟩), .int .i64 (drv : Int), .string S] W fun e w' => e = .returned (.int .i64 0) ∧ St F w (stars [box K 34 #[.int .i64 o, .bool v, .int .i64 f], memA g (over xs drv S), box gq 77 cs]) w' := fun W hW => by
    obtain ⟨F1, hA, hb⟩ := hW.at 1 (by simp)
    exact (memA_put hA drv S hS).mono fun _ _ ⟨he, hs⟩ => ⟨he, hb _ _ hs⟩
  have HW := Lib.hid HW
  have S1 := S0.push 34 #[.int .i64 o, .bool v, .int .i64 f]
  rw [hK] at S1
  have S1 := Lib.hid S1
  clear h S0 hb h0 h3 hS hK
  go_enter Tryz.func15, Tryz.ntmps15
  go_wp2_with fail
  refine (HB.out _).mono ?_
  rintro e w1 ⟨rfl, hq⟩
  have S2 := Lib.hid (S1.out.below hq).drew
  clear hq hlt hne S1
  go_wp2_with fail
  go_region_held3 (fun W => W.cell? ⟨gq, 0, none⟩ = some (.pointer (some ⟨g, 0, none⟩)) ∧ W.cell? ⟨gq, 3, none⟩ = some (.int .i64 (drv : Int)))
    (with_reducible (first | exact ask_cells (g := g) S2.out HC | exact ask_cells (g := g) S3 HC))
    ((go_at_call 10; ((with_reducible refine (HW.out _ S2.out).mono ?_); rintro e w2 ⟨rfl, S3⟩)))
  go_wp2_with fail
  go_ret
  exact ⟨rfl, S3.pop⟩
theorem ask_v {F : Nat → Prop} {w : World} {gq g : Nat} {xs : List UInt8} {q : Vs} (h : (stars [memA g xs, drvA gq g q]).P F w) (hq : q.Ok xs.length) (o f : Int) (v : Bool) :
    Calls Tryz.prog 15 #[.pointer (some ⟨gq, 0, none⟩), .agg #[.int .i64 o, .bool v, .int .i64 f]] w fun e w' => e = .returned (.int .i64 (Sp.buE o f)) ∧ St F w (stars [memA g (askX xs q o v f), drvA gq g q]) w' := by
  obtain ⟨bm, low, hlo, h'⟩ := drv_open h
  have HB := fun W => Sp.build_any o f v W
  unfold Sp.RS at HB
  obtain ⟨F2, hA, hF2, hback⟩ := (St.start h').twox 0 1 (by omega) (by simp)
  unfold askX
  by_cases he : Sp.buE o f = 0
  · rw [if_pos he, he]
    rw [he] at HB
    have hz : (Sp.buS o v f).size ≤ 4 := Sp.buS_size o v f
    exact (ask_good hA rfl rfl o f v _ (by have := hq.drv; omega) HB).mono fun _ _ ⟨he, hs⟩ => ⟨he, drv_shut (hback _ _ _ hs) hlo⟩
  · rw [if_neg he]
    exact (ask_bad hA o f v _ _ (by simpa using he) HB).mono fun _ _ ⟨he, hs⟩ => ⟨he, drv_shut (hback _ _ _ hs) hlo⟩
end Go.Proofs.YtbpgblmhacpjlaaGreat
