/-
  The document's Reap.
-/
import Derived.Test.YtbpgblmhacpjlaaGreatZk
import Derived.Test.YtbpgblmhacpjlaaGreatZj
import Derived.Test.YtbpgblmhacpjlaaGreatZl
import Derived.BigRegion
import Derived.Deep.RegionHeld3
namespace Go.Proofs.YtbpgblmhacpjlaaGreat
open Go.RowKit

theorem cut_extract (xs : List UInt8) (n k : Nat) : (⟨xs.toArray⟩ : ByteArray).extract n (n + k) = ⟨((xs.drop n).take k).toArray⟩ := by
  apply ByteArray.ext
  rw [ByteArray.data_extract]
  apply Array.toList_inj.1
  simp [List.extract, Nat.add_sub_cancel_left]
/-- a variable of the call's own is laid anew -/
def refP2 (gx g : Nat) (q : Vs) (v : Value) : List As := [box gx 48 (q.cellsR g v), rowA 3 1 v q.hs.length (intsV q.hs)]
theorem ref_open {F : Nat → Prop} {w : World} {gx g : Nat} {q : Vs} (h : (refA gx g q).P F w) : ∃ A cap, (stars [box gx 48 (q.cellsR g (.slice A q.hs.length cap)), rowA 3 1 (.slice A q.hs.length cap) q.hs.length (intsV q.hs)]).P F w := by
  obtain ⟨hv, hb, ho, hF⟩ := h
  obtain ⟨A, cap, rfl⟩ := own_form ho
  exact ⟨A, cap, stars_pair ⟨fun k => k = gx, fun k => (Value.slice A q.hs.length cap).ownBlock = some k, hF, fun k e e' => own_ne ho hb (by decide) (e ▸ e'), ⟨hb, fun _ => Iff.rfl⟩, ⟨ho, fun _ => Iff.rfl⟩⟩⟩
theorem ref_shut {F0 : Nat → Prop} {w0 w : World} {gx g : Nat} {q : Vs} {v : Value} {n : Nat} {xs : List Value} {cs : Array Value} (h : St F0 w0 (stars [box gx 48 cs, rowA 3 1 v n xs]) w) (hc : cs = q.cellsR g v) (hn : n = q.hs.length) (hx : xs = intsV q.hs) : St F0 w0 (refA gx g q) w := by
  subst hc; subst hn; subst hx
  refine h.mono fun F e => ?_
  obtain ⟨F1, F2, hF, -, a, b⟩ := pair_stars e
  exact ⟨v, a.1, b.1, fun k => by rw [hF k, a.2 k, b.2 k]⟩
theorem St.erase {F0 : Nat → Prop} {w0 w : World} {l : List As} (h : St F0 w0 (stars l) w) (i : Nat) (hi : i < l.length) : St F0 w0 (stars (l.eraseIdx i)) w :=
  St.drop (A := l[i]) (h.mono fun _ e => stars_pull l i hi _ e)
theorem St.swap {F0 : Nat → Prop} {w0 w : World} {A B : As} (h : St F0 w0 (stars [A, B]) w) : St F0 w0 (stars [B, A]) w := h.mono fun _ e => stars_pair (sep_comm (pair_stars e))
theorem rowA_put {F : Nat → Prop} {w : World} {e : TypeId} {g n cap : Nat} {xs : List Value} (h : (rowA e 1 (.slice (some ⟨g, 0, none⟩) n cap) n xs).P F w) (i : Nat) (u : Value) :
    St F w (rowA e 1 (.slice (some ⟨g, 0, none⟩) n cap) n (xs.set i u)) (w.setCell ⟨g, i, none⟩ u) := by
  obtain ⟨ho, hF⟩ := h
  refine ⟨F, ⟨⟨by simpa using ho.1, ?_⟩, hF⟩, ⟨rfl, rfl, rfl, by simp [World.setCell], fun k _ hk => Below.heap_setCell w _ u k (fun e => hk ((hF k).2 (by simp [Value.ownBlock, e])))⟩, fun _ hk => .inl hk⟩
  rcases ho.2 with ⟨e1, -⟩ | ⟨g', cap', cur, e1, hB, hb, h1, h2, h3, h4⟩
  · cases e1
  · injection e1 with e1 e2 e3
    injection e1 with e1
    injection e1 with e1
    subst e1; subst e3
    refine .inr ⟨g, cap, cur.setIfInBounds i u, rfl, hB, Blk.put hb i u, h1, h2, by simpa using h3, ?_⟩
    rw [← h4, Array.toList_setIfInBounds, List.take_set]
theorem St.putRow {F0 : Nat → Prop} {w0 w : World} {l : List As} (h : St F0 w0 (stars l) w) (k : Nat) (hk : k < l.length) {e : TypeId} {g n cap : Nat} {xs : List Value} (he : l[k] = rowA e 1 (.slice (some ⟨g, 0, none⟩) n cap) n xs) (i : Nat) (u : Value) :
    St F0 w0 (stars (l.set k (rowA e 1 (.slice (some ⟨g, 0, none⟩) n cap) n (xs.set i u)))) (w.setCell ⟨g, i, none⟩ u) := by
  obtain ⟨F, hA, hb⟩ := h.at k hk
  rw [he] at hA
  exact hb _ _ (rowA_put hA i u)
theorem intsV_set (l : List Nat) (i n : Nat) : (intsV l).set i (.int .i64 (n : Int)) = intsV (l.set i n) := by
  unfold intsV
  rw [List.map_set]
theorem St.pop2 {F : Nat → Prop} {w W : World} {l : List As} {k : Nat} {t : TypeId} {x y : Value} (h : St F w (stars (box k t #[x, y] :: l)) W) (p r : Value) : St F w (stars l) ((W.setCell ⟨k, 0, none⟩ p).setCell ⟨k, 1, none⟩ r) :=
  St.pop (h.put2 0 (by simp) rfl 0 1 p r)
theorem used_rf (f : Nat) (h : f < 65536) (v : Bool) (w : World) :
    Calls Tryz.prog 39 #[.int .i64 (f : Int), .bool v] w fun e w' => e = .returned (.bool (usedB f v)) ∧ w = w' := by
  obtain ⟨a, u, R, hR, rfl⟩ := split f h
  rw [usedB_of hR]
  exact rused_any R hR a u v w
end Go.Proofs.YtbpgblmhacpjlaaGreat
namespace Go.Proofs.YtbpgblmhacpjlaaGreat
open Go.RowKit

/-- what Reap answers -/
def RReapP (F : Nat → Prop) (w : World) (gx gk : Nat) (r : Int × Int × Bool × Int × Vs) (e : Ending) (w' : World) : Prop :=
  e = .returned (.tuple #[.int .i64 r.1, .int .i64 r.2.1, .bool r.2.2.1, .int .i64 r.2.2.2.1]) ∧ St F w (refA gx gk r.2.2.2.2) w'
theorem rreap_results (f : Func) (w : World) (tmps : Array Value) (hf : f.results = Tryz.f9.results) {a b c d : Value} (h2 : tmps[2]?.getD undef = a) (h3 : tmps[3]?.getD undef = b) (h4 : tmps[4]?.getD undef = c) (h5 : tmps[5]?.getD undef = d) :
    (results f tmps).run Tryz.prog w = .ok (.tuple #[a, b, c, d]) w := by
  simp [results, hf, Tryz.results9, go_sem, h2, h3, h4, h5]
set_option maxRecDepth 100000 in
set_option maxHeartbeats 3200000 in
theorem rreap_none {F : Nat → Prop} {w : World} {gx gk : Nat} {xs : List UInt8} {q : Vs} (h : (refA gx gk q).P F w) (hk : w.cell? ⟨gk, 0, none⟩ = some (.string ⟨xs.toArray⟩)) (hF : ¬ F gk) (hq : q.Ok xs.length) (hx : xs.length ≤ 1048576) (k : usedB (deAt xs (q.ring + 16 * q.ba)).f q.bw = false) :
    Calls Tryz.prog 9 #[.pointer (some ⟨gx, 0, none⟩)] w (RReapP F w gx gk (0, 0, false, 0, q)) := by
  obtain ⟨A, cap, h'⟩ := ref_open h
  have S0 := St.start h'
  have hr1 := hq.r
  have hs1 := hq.ba
  have hs2 := hq.s2
  obtain ⟨b, hb0, e1⟩ : ∃ b : Nat, 16 * q.ba = b ∧ (16 : Int) * (q.ba : Int) = (b : Int) := ⟨_, rfl, by omega⟩
  obtain ⟨n, hn0, e2⟩ : ∃ n : Nat, q.ring + 16 * q.ba = n ∧ (q.ring : Int) + (b : Int) = (n : Int) := ⟨_, rfl, by omega⟩
  rw [hn0] at k
  have hn : n + 16 ≤ xs.length := by omega
  have v1 : IntKind.i64.wrap (b : Int) = (b : Int) := by rw [IntKind.wrap_i64]; omega
  have v2 : IntKind.i64.wrap (n : Int) = (n : Int) := by rw [IntKind.wrap_i64]; omega
  have v7 : IntKind.i64.wrap ((n : Int) + 16) = (n : Int) + 16 := by rw [IntKind.wrap_i64]; omega
  have HP := fun W => rparse_ok (cut16 xs n) (cut16_size xs n hn) W
  have HP : ∀ W, Calls Tryz.prog 38 #[.string (cut16 xs n)] W fun e w' => e = .returned (.tuple #[(deAt xs n).v, .int .i64 0]) ∧ Below W.heap.size W w' := HP
  have hE : (⟨xs.toArray⟩ : ByteArray).extract n (n + 16) = cut16 xs n := cut_extract xs n 16
  have hs : (⟨xs.toArray⟩ : ByteArray).size = xs.length := by show xs.toArray.size = _; simp
  have hok := deAt_ok xs n hn
  obtain ⟨d, hd⟩ : ∃ d, deAt xs n = d := ⟨_, rfl⟩
  rw [hd] at HP hok k
  obtain ⟨S, hS⟩ : ∃ S, cut16 xs n = S := ⟨_, rfl⟩
  rw [hS] at HP hE
  obtain ⟨SB, hSB⟩ : ∃ SB : ByteArray, ⟨xs.toArray⟩ = SB := ⟨_, rfl⟩
  rw [hSB] at hE hs hk
  unfold De.v at HP
  have v3 : (n : Int) + 16 ≤ (SB.size : Int) := by omega
  have v4 : n + 16 ≤ SB.size := by omega
  have v5 : ¬ (SB.size : Int) < (n : Int) + 16 := by omega
  have v6 : ((n : Int) + 16).toNat = n + 16 := by omega
  have HU := fun W => used_rf d.f hok.f q.bw W
  rw [k] at HU
  have hg := S0.blk 0 (by simp) rfl
  have p1 : w.cell? ⟨gx, 1, none⟩ = some (.int .i64 (q.ring : Int)) := hg.cell 1
  have p7 : w.cell? ⟨gx, 7, none⟩ = some (.int .i64 (q.ba : Int)) := hg.cell 7
  have HU := Lib.hid HU
  have HP := Lib.hid HP
  have HQ := Lib.hid hq
  have S1 := S0
  have HKF := Lib.hid hF
  have HK0 := Lib.hid hk
  have hltk := World.block_lt_of_cell? w ⟨gk, 0, none⟩ hk
  have hdi := hok.id
  have hdn := hok.n
  skip
  clear h h' hg hq hx hok hd hS hSB hs hn hn0 hb0 hr1 hs1 hs2 S0 k hF hk
  go_enter Tryz.func9, Tryz.ntmps9
  go_wp2_with fail
  go_quiet (fail)
  have S2 := S1.drewN nq
  have hk2 : (w.drewN nq).cell? ⟨gk, 0, none⟩ = some (.string SB) := HK0.out
  obtain ⟨W1, hW1⟩ : ∃ W1, w.drewN nq = W1 := ⟨_, rfl⟩
  rw [hW1] at S2 hk2 ⊢
  have hg := S2.blk 0 (by simp) rfl
  have p0 : W1.cell? ⟨gx, 0, none⟩ = some (.pointer (some ⟨gk, 0, none⟩)) := hg.cell 0
  have hltg := hg.lt
  have hneg := Nat.ne_of_lt hltg
  have S2 := Lib.hid S2
  clear S1 hg p1 p7 hW1 e1 e2 v1 v2
  go_wp2_with fail
  refine (HP.out _).mono ?_
  rintro e w2 ⟨rfl, hq⟩
  have S3 := S2.out.below hq
  have hb3 := S3.blk 0 (by simp) rfl
  have d8 : w2.cell? ⟨gx, 8, none⟩ = some (.bool q.bw) := hb3.cell 8
  have hlt := hb3.lt
  have hne := Nat.ne_of_lt hlt
  have S3 := Lib.hid (S3.push 89 #[.int .u64 (d.a : Int), .int .u32 (d.n : Int), .int .i64 (d.id : Int), .int .i64 (d.f : Int)])
  clear S2 HP hq hb3 hk2 p0 hltg hneg
  go_wp2_with fail
  go_quiet ((go_at_call 39; exact Calls.quiet_of_same ((HU.out _).mono fun _ _ hh => ⟨hh.1, hh.2.symm⟩)))
  go_wp2_with fail
  exact bodyPost_ret (v := .tuple #[.int .i64 0, .int .i64 0, .bool false, .int .i64 0]) (rreap_results _ _ _ rfl rfl rfl rfl rfl) rfl ⟨rfl, ref_shut (S3.out.pop.drewN _) rfl rfl rfl⟩
set_option maxRecDepth 100000 in
set_option maxHeartbeats 3200000 in
theorem rreap_far {F : Nat → Prop} {w : World} {gx gk : Nat} {xs : List UInt8} {q : Vs} (h : (refA gx gk q).P F w) (hk : w.cell? ⟨gk, 0, none⟩ = some (.string ⟨xs.toArray⟩)) (hF : ¬ F gk) (hq : q.Ok xs.length) (hx : xs.length ≤ 1048576) (k : usedB (deAt xs (q.ring + 16 * q.ba)).f q.bw = true) (kh : q.hs.length ≤ (deAt xs (q.ring + 16 * q.ba)).id) :
    Calls Tryz.prog 9 #[.pointer (some ⟨gx, 0, none⟩)] w (RReapP F w gx gk (0, 0, false, 150, q)) := by
  obtain ⟨A, cap, h'⟩ := ref_open h
  have S0 := St.start h'
  have hr1 := hq.r
  have hs1 := hq.ba
  have hs2 := hq.s2
  obtain ⟨b, hb0, e1⟩ : ∃ b : Nat, 16 * q.ba = b ∧ (16 : Int) * (q.ba : Int) = (b : Int) := ⟨_, rfl, by omega⟩
  obtain ⟨n, hn0, e2⟩ : ∃ n : Nat, q.ring + 16 * q.ba = n ∧ (q.ring : Int) + (b : Int) = (n : Int) := ⟨_, rfl, by omega⟩
  rw [hn0] at k kh
  have hn : n + 16 ≤ xs.length := by omega
  have v1 : IntKind.i64.wrap (b : Int) = (b : Int) := by rw [IntKind.wrap_i64]; omega
  have v2 : IntKind.i64.wrap (n : Int) = (n : Int) := by rw [IntKind.wrap_i64]; omega
  have v7 : IntKind.i64.wrap ((n : Int) + 16) = (n : Int) + 16 := by rw [IntKind.wrap_i64]; omega
  have HP := fun W => rparse_ok (cut16 xs n) (cut16_size xs n hn) W
  have HP : ∀ W, Calls Tryz.prog 38 #[.string (cut16 xs n)] W fun e w' => e = .returned (.tuple #[(deAt xs n).v, .int .i64 0]) ∧ Below W.heap.size W w' := HP
  have hE : (⟨xs.toArray⟩ : ByteArray).extract n (n + 16) = cut16 xs n := cut_extract xs n 16
  have hs : (⟨xs.toArray⟩ : ByteArray).size = xs.length := by show xs.toArray.size = _; simp
  have hok := deAt_ok xs n hn
  obtain ⟨d, hd⟩ : ∃ d, deAt xs n = d := ⟨_, rfl⟩
  rw [hd] at HP hok k kh
  obtain ⟨S, hS⟩ : ∃ S, cut16 xs n = S := ⟨_, rfl⟩
  rw [hS] at HP hE
  obtain ⟨SB, hSB⟩ : ∃ SB : ByteArray, ⟨xs.toArray⟩ = SB := ⟨_, rfl⟩
  rw [hSB] at hE hs hk
  unfold De.v at HP
  have v3 : (n : Int) + 16 ≤ (SB.size : Int) := by omega
  have v4 : n + 16 ≤ SB.size := by omega
  have v5 : ¬ (SB.size : Int) < (n : Int) + 16 := by omega
  have v6 : ((n : Int) + 16).toNat = n + 16 := by omega
  have HU := fun W => used_rf d.f hok.f q.bw W
  rw [k] at HU
  have hg := S0.blk 0 (by simp) rfl
  have p1 : w.cell? ⟨gx, 1, none⟩ = some (.int .i64 (q.ring : Int)) := hg.cell 1
  have p7 : w.cell? ⟨gx, 7, none⟩ = some (.int .i64 (q.ba : Int)) := hg.cell 7
  have HU := Lib.hid HU
  have HP := Lib.hid HP
  have HQ := Lib.hid hq
  have S1 := S0
  have HKF := Lib.hid hF
  have HK0 := Lib.hid hk
  have hltk := World.block_lt_of_cell? w ⟨gk, 0, none⟩ hk
  have hdi := hok.id
  have hdn := hok.n
  have g1 : (q.hs.length : Int) ≤ (d.id : Int) := by omega
  have g2 : decide ((q.hs.length : Int) ≤ (d.id : Int)) = true := decide_eq_true g1
  clear h h' hg hq hx hok hd hS hSB hs hn hn0 hb0 hr1 hs1 hs2 S0 k hF hk
  go_enter Tryz.func9, Tryz.ntmps9
  go_wp2_with fail
  go_quiet (fail)
  have S2 := S1.drewN nq
  have hk2 : (w.drewN nq).cell? ⟨gk, 0, none⟩ = some (.string SB) := HK0.out
  obtain ⟨W1, hW1⟩ : ∃ W1, w.drewN nq = W1 := ⟨_, rfl⟩
  rw [hW1] at S2 hk2 ⊢
  have hg := S2.blk 0 (by simp) rfl
  have p0 : W1.cell? ⟨gx, 0, none⟩ = some (.pointer (some ⟨gk, 0, none⟩)) := hg.cell 0
  have hltg := hg.lt
  have hneg := Nat.ne_of_lt hltg
  have S2 := Lib.hid S2
  clear S1 hg p1 p7 hW1 e1 e2 v1 v2
  go_wp2_with fail
  refine (HP.out _).mono ?_
  rintro e w2 ⟨rfl, hq⟩
  have S3 := S2.out.below hq
  have hb3 := S3.blk 0 (by simp) rfl
  have d8 : w2.cell? ⟨gx, 8, none⟩ = some (.bool q.bw) := hb3.cell 8
  have hlt := hb3.lt
  have hne := Nat.ne_of_lt hlt
  have S3 := Lib.hid (S3.push 89 #[.int .u64 (d.a : Int), .int .u32 (d.n : Int), .int .i64 (d.id : Int), .int .i64 (d.f : Int)])
  clear S2 HP hq hb3 hk2 p0 hltg hneg
  go_wp2_with fail
  go_quiet ((go_at_call 39; exact Calls.quiet_of_same ((HU.out _).mono fun _ _ hh => ⟨hh.1, hh.2.symm⟩)))
  have S4 := S3.out.drewN nq
  obtain ⟨Wa, hWa⟩ : ∃ Wa, (w2.alloc (.cells #[.int .u64 (d.a : Int), .int .u32 (d.n : Int), .int .i64 (d.id : Int), .int .i64 (d.f : Int)] 89)).drewN nq = Wa := ⟨_, rfl⟩
  obtain ⟨K, hK⟩ : ∃ K, w2.heap.size = K := ⟨_, rfl⟩
  rw [hWa] at S4 ⊢
  rw [hK] at S4 ⊢
  clear d8 hlt hne HU hWa hK S3
  have ba_ := S4.blk 1 (by simp) rfl
  have ka_ := S4.blk 0 (by simp) rfl
  have r_ := S4.row 2 (by simp) rfl
  have d12 : Wa.cell? ⟨gx, 12, none⟩ = some (.slice A q.hs.length cap) := ba_.cell 12
  have k2 : Wa.cell? ⟨K, 2, none⟩ = some (.int .i64 (d.id : Int)) := ka_.cell 2
  have hlt := ba_.lt
  have hne := Nat.ne_of_lt hlt
  have hltk := ka_.lt
  have hnek := Nat.ne_of_lt hltk
  have S4 := Lib.hid S4
  clear ba_ ka_ r_
  go_wp2_with fail
  go_quiet (fail)
  go_wp2_with fail
  exact bodyPost_ret (v := .tuple #[.int .i64 0, .int .i64 0, .bool false, .int .i64 150]) (rreap_results _ _ _ rfl rfl rfl rfl rfl) rfl ⟨rfl, ref_shut (S4.out.pop.drewN _) rfl rfl rfl⟩
set_option maxRecDepth 100000 in
set_option maxHeartbeats 3200000 in
theorem rreap_bad {F : Nat → Prop} {w : World} {gx gk : Nat} {xs : List UInt8} {q : Vs} (h : (refA gx gk q).P F w) (hk : w.cell? ⟨gk, 0, none⟩ = some (.string ⟨xs.toArray⟩)) (hF : ¬ F gk) (hq : q.Ok xs.length) (hx : xs.length ≤ 1048576) (k : usedB (deAt xs (q.ring + 16 * q.ba)).f q.bw = true) (kh : (deAt xs (q.ring + 16 * q.ba)).id < q.hs.length) (kz : q.hs.getD (deAt xs (q.ring + 16 * q.ba)).id 0 = 0) :
    Calls Tryz.prog 9 #[.pointer (some ⟨gx, 0, none⟩)] w (RReapP F w gx gk (0, 0, false, 150, q)) := by
  obtain ⟨A, cap, h'⟩ := ref_open h
  have S0 := St.start h'
  have hr1 := hq.r
  have hs1 := hq.ba
  have hs2 := hq.s2
  obtain ⟨b, hb0, e1⟩ : ∃ b : Nat, 16 * q.ba = b ∧ (16 : Int) * (q.ba : Int) = (b : Int) := ⟨_, rfl, by omega⟩
  obtain ⟨n, hn0, e2⟩ : ∃ n : Nat, q.ring + 16 * q.ba = n ∧ (q.ring : Int) + (b : Int) = (n : Int) := ⟨_, rfl, by omega⟩
  rw [hn0] at k kh kz
  have hn : n + 16 ≤ xs.length := by omega
  have v1 : IntKind.i64.wrap (b : Int) = (b : Int) := by rw [IntKind.wrap_i64]; omega
  have v2 : IntKind.i64.wrap (n : Int) = (n : Int) := by rw [IntKind.wrap_i64]; omega
  have v7 : IntKind.i64.wrap ((n : Int) + 16) = (n : Int) + 16 := by rw [IntKind.wrap_i64]; omega
  have HP := fun W => rparse_ok (cut16 xs n) (cut16_size xs n hn) W
  have HP : ∀ W, Calls Tryz.prog 38 #[.string (cut16 xs n)] W fun e w' => e = .returned (.tuple #[(deAt xs n).v, .int .i64 0]) ∧ Below W.heap.size W w' := HP
  have hE : (⟨xs.toArray⟩ : ByteArray).extract n (n + 16) = cut16 xs n := cut_extract xs n 16
  have hs : (⟨xs.toArray⟩ : ByteArray).size = xs.length := by show xs.toArray.size = _; simp
  have hok := deAt_ok xs n hn
  obtain ⟨d, hd⟩ : ∃ d, deAt xs n = d := ⟨_, rfl⟩
  rw [hd] at HP hok k kh kz
  obtain ⟨S, hS⟩ : ∃ S, cut16 xs n = S := ⟨_, rfl⟩
  rw [hS] at HP hE
  obtain ⟨SB, hSB⟩ : ∃ SB : ByteArray, ⟨xs.toArray⟩ = SB := ⟨_, rfl⟩
  rw [hSB] at hE hs hk
  unfold De.v at HP
  have v3 : (n : Int) + 16 ≤ (SB.size : Int) := by omega
  have v4 : n + 16 ≤ SB.size := by omega
  have v5 : ¬ (SB.size : Int) < (n : Int) + 16 := by omega
  have v6 : ((n : Int) + 16).toNat = n + 16 := by omega
  have HU := fun W => used_rf d.f hok.f q.bw W
  rw [k] at HU
  have hg := S0.blk 0 (by simp) rfl
  have p1 : w.cell? ⟨gx, 1, none⟩ = some (.int .i64 (q.ring : Int)) := hg.cell 1
  have p7 : w.cell? ⟨gx, 7, none⟩ = some (.int .i64 (q.ba : Int)) := hg.cell 7
  have HU := Lib.hid HU
  have HP := Lib.hid HP
  have HQ := Lib.hid hq
  have S1 := S0
  have HKF := Lib.hid hF
  have HK0 := Lib.hid hk
  have hltk := World.block_lt_of_cell? w ⟨gk, 0, none⟩ hk
  have hdi := hok.id
  have hdn := hok.n
  have g2 : decide (q.hs.length ≤ d.id) = false := decide_eq_false (by omega)
  have g3 : (d.id : Int) < (q.hs.length : Int) := by omega
  have g4 : (0 : Int) ≤ (d.id : Int) := by omega
  clear h h' hg hq hx hok hd hS hSB hs hn hn0 hb0 hr1 hs1 hs2 S0 k hF hk
  go_enter Tryz.func9, Tryz.ntmps9
  go_wp2_with fail
  go_quiet (fail)
  have S2 := S1.drewN nq
  have hk2 : (w.drewN nq).cell? ⟨gk, 0, none⟩ = some (.string SB) := HK0.out
  obtain ⟨W1, hW1⟩ : ∃ W1, w.drewN nq = W1 := ⟨_, rfl⟩
  rw [hW1] at S2 hk2 ⊢
  have hg := S2.blk 0 (by simp) rfl
  have p0 : W1.cell? ⟨gx, 0, none⟩ = some (.pointer (some ⟨gk, 0, none⟩)) := hg.cell 0
  have hltg := hg.lt
  have hneg := Nat.ne_of_lt hltg
  have S2 := Lib.hid S2
  clear S1 hg p1 p7 hW1 e1 e2 v1 v2
  go_wp2_with fail
  refine (HP.out _).mono ?_
  rintro e w2 ⟨rfl, hq⟩
  have S3 := S2.out.below hq
  have hb3 := S3.blk 0 (by simp) rfl
  have d8 : w2.cell? ⟨gx, 8, none⟩ = some (.bool q.bw) := hb3.cell 8
  have hlt := hb3.lt
  have hne := Nat.ne_of_lt hlt
  have S3 := Lib.hid (S3.push 89 #[.int .u64 (d.a : Int), .int .u32 (d.n : Int), .int .i64 (d.id : Int), .int .i64 (d.f : Int)])
  clear S2 HP hq hb3 hk2 p0 hltg hneg
  go_wp2_with fail
  go_quiet ((go_at_call 39; exact Calls.quiet_of_same ((HU.out _).mono fun _ _ hh => ⟨hh.1, hh.2.symm⟩)))
  have S4 := S3.out.drewN nq
  obtain ⟨Wa, hWa⟩ : ∃ Wa, (w2.alloc (.cells #[.int .u64 (d.a : Int), .int .u32 (d.n : Int), .int .i64 (d.id : Int), .int .i64 (d.f : Int)] 89)).drewN nq = Wa := ⟨_, rfl⟩
  obtain ⟨K, hK⟩ : ∃ K, w2.heap.size = K := ⟨_, rfl⟩
  rw [hWa] at S4 ⊢
  rw [hK] at S4 ⊢
  clear d8 hlt hne HU hWa hK S3
  have ba_ := S4.blk 1 (by simp) rfl
  have ka_ := S4.blk 0 (by simp) rfl
  have r_ := S4.row 2 (by simp) rfl
  have d12 : Wa.cell? ⟨gx, 12, none⟩ = some (.slice A q.hs.length cap) := ba_.cell 12
  have k2 : Wa.cell? ⟨K, 2, none⟩ = some (.int .i64 (d.id : Int)) := ka_.cell 2
  have hlt := ba_.lt
  have hne := Nat.ne_of_lt hlt
  have hltk := ka_.lt
  have hnek := Nat.ne_of_lt hltk
  obtain ⟨b2, off, hA, hc⟩ := (NTab.of_own r_ rfl).at d.id kh
  subst hA
  rw [kz] at hc
  have hc : Wa.cell? ⟨b2, off + d.id, none⟩ = some (.int .i64 0) := hc
  have S4 := Lib.hid S4
  clear ba_ ka_ r_ kh kz
  go_wp2_with fail
  go_quiet (fail)
  go_wp2_with fail
  exact bodyPost_ret (v := .tuple #[.int .i64 0, .int .i64 0, .bool false, .int .i64 150]) (rreap_results _ _ _ rfl rfl rfl rfl rfl) rfl ⟨rfl, ref_shut (S4.out.pop.drewN _) rfl rfl rfl⟩
end Go.Proofs.YtbpgblmhacpjlaaGreat
namespace Go.Proofs.YtbpgblmhacpjlaaGreat
open Go.RowKit

theorem own_cells_at {w : World} {B n cap b off : Nat} {e : TypeId} {xs : List Value} (h : w.ownsRow B e 1 (.slice (some ⟨b, off, none⟩) n cap) n xs) (hn : 0 < n) : ∀ j u, xs[j]? = some u → w.cell? ((⟨b, off, none⟩ : Addr).add j) = some u := by
  obtain ⟨g, cap', hv, _, _⟩ := h.form hn
  have hA : (some ⟨b, off, none⟩ : Option Addr) = some ⟨g, 0, none⟩ := by injection hv
  injection hA with hA
  injection hA with h1 h2
  subst h1; subst h2
  exact h.cells (g := b) rfl
/-- Reap under way: what it reads -/
def RQ (F : Nat → Prop) (w : World) (gx gk K : Nat) (dv : Array Value) (q : Vs) (b off cap : Nat) (W : World) : Prop :=
  St F w (stars [box K 89 dv, box gx 48 (q.cellsR gk (.slice (some ⟨b, off, none⟩) q.hs.length cap)), rowA 3 1 (.slice (some ⟨b, off, none⟩) q.hs.length cap) q.hs.length (intsV q.hs)]) W
section
variable {F : Nat → Prop} {w W w' : World} {gx gk K b off cap : Nat} {dv : Array Value} {q : Vs}
theorem RQ.below (h : RQ F w gx gk K dv q b off cap W) (hq : Below W.heap.size W w') : RQ F w gx gk K dv q b off cap w' := St.below h hq
theorem RQ.drew (h : RQ F w gx gk K dv q b off cap W) : RQ F w gx gk K dv q b off cap W.drew := St.drew h
theorem RQ.alloc (h : RQ F w gx gk K dv q b off cap W) (o : Obj) : RQ F w gx gk K dv q b off cap (W.alloc o) := St.alloc h o
theorem RQ.keep2 (h : RQ F w gx gk K dv q b off cap W) {x y : Value} (hq : Below (W.alloc (.cells #[x, y] 44)).drew.heap.size (W.alloc (.cells #[x, y] 44)).drew w') (p r : Value) :
    St F w (stars [box W.heap.size 44 #[p, r], box K 89 dv, box gx 48 (q.cellsR gk (.slice (some ⟨b, off, none⟩) q.hs.length cap)), rowA 3 1 (.slice (some ⟨b, off, none⟩) q.hs.length cap) q.hs.length (intsV q.hs)]) ((w'.setCell ⟨W.heap.size, 0, none⟩ p).setCell ⟨W.heap.size, 1, none⟩ r) :=
  ((St.push h 44 #[x, y]).drew.below hq).put2 0 (by simp) rfl 0 1 p r
theorem RQ.st2 (h : RQ F w gx gk K dv q b off cap W) {x y : Value} (hq : Below (W.alloc (.cells #[x, y] 44)).drew.heap.size (W.alloc (.cells #[x, y] 44)).drew w') (p r : Value) :
    RQ F w gx gk K dv q b off cap ((w'.setCell ⟨W.heap.size, 0, none⟩ p).setCell ⟨W.heap.size, 1, none⟩ r) := St.pop (h.keep2 hq p r)
theorem RQ.cells {a n id f : Value} (h : RQ F w gx gk K #[a, n, id, f] q b off cap W) {i X : Nat} (hi : Hid (i < q.hs.length ∧ q.hs.getD i 0 = X)) :
    W.cell? ⟨gx, 7, none⟩ = some (.int .i64 (q.ba : Int)) ∧ W.cell? ⟨gx, 8, none⟩ = some (.bool q.bw) ∧ W.cell? ⟨gx, 12, none⟩ = some (.slice (some ⟨b, off, none⟩) q.hs.length cap) ∧ W.cell? ⟨gx, 2, none⟩ = some (.int .i64 (q.size : Int)) ∧ W.cell? ⟨K, 2, none⟩ = some id ∧ W.cell? ⟨b, off + i, none⟩ = some (.int .i64 (X : Int)) := by
  obtain ⟨h1, h2⟩ := hi.out
  have hg := St.blk h 1 (by simp) rfl
  have hk := St.blk h 0 (by simp) rfl
  obtain ⟨b', off', hA, hc⟩ := (NTab.of_own (St.row h 2 (by simp) rfl) rfl).at i h1
  injection hA with hA
  injection hA with e1 e2
  subst e1; subst e2
  rw [h2] at hc
  exact ⟨hg.cell 7, hg.cell 8, hg.cell 12, hg.cell 2, hk.cell 2, hc⟩
end
theorem reap_shut {F : Nat → Prop} {w W : World} {gx gk id X NA g3 cap3 : Nat} {NB : Bool} {v : Value} {q : Vs} (h : St F w (stars [box gx 48 ((((q.cellsR gk v).setIfInBounds 7 (.int .i64 (NA : Int))).setIfInBounds 8 (.bool NB)).setIfInBounds 12 (.slice (some ⟨g3, 0, none⟩) q.hs.length cap3)), rowA 3 1 (.slice (some ⟨g3, 0, none⟩) q.hs.length cap3) q.hs.length ((intsV q.hs).set id (.int .i64 0))]) W)
    (hA : stA q.size q.ba X = NA) (hB : stW q.size q.ba X q.bw = NB) (hX : q.hs.getD id 0 = X) : St F w (refA gx gk (q.reaped id)) W := by
  subst hA; subst hB; subst hX
  exact ref_shut h rfl (by simp [Vs.reaped]) (intsV_set q.hs id 0)
theorem own_blk3 {w : World} {B n g cap : Nat} {e : TypeId} {xs : List Value} (h : w.ownsRow B e 1 (.slice (some ⟨g, 0, none⟩) n cap) n xs) (_ : 0 < n) : ∃ cur, Blk w g e cur ∧ n ≤ cur.size := by
  rcases h.2 with ⟨e1, -⟩ | ⟨g', cap', cur, e1, hB, hb, h1, h2, h3, h4⟩
  · cases e1
  · injection e1 with e1 e2 e3
    injection e1 with e1
    injection e1 with e1
    subst e1; subst e3
    exact ⟨cur, hb, by rw [h3]; omega⟩
set_option maxRecDepth 100000 in
set_option maxHeartbeats 3200000 in
theorem rreap_ok {F : Nat → Prop} {w : World} {gx gk : Nat} {xs : List UInt8} {q : Vs} (h : (refA gx gk q).P F w) (hk : w.cell? ⟨gk, 0, none⟩ = some (.string ⟨xs.toArray⟩)) (hF : ¬ F gk) (hq : q.Ok xs.length) (hx : xs.length ≤ 1048576) (k : usedB (deAt xs (q.ring + 16 * q.ba)).f q.bw = true) (kh : 0 < q.hs.getD (deAt xs (q.ring + 16 * q.ba)).id 0) :
    Calls Tryz.prog 9 #[.pointer (some ⟨gx, 0, none⟩)] w (RReapP F w gx gk (((deAt xs (q.ring + 16 * q.ba)).id : Int), ((deAt xs (q.ring + 16 * q.ba)).n : Int), true, 0, q.reaped (deAt xs (q.ring + 16 * q.ba)).id)) := by
  obtain ⟨A, cap, h'⟩ := ref_open h
  have S0 := St.start h'
  have hr1 := hq.r
  have hs1 := hq.ba
  have hs2 := hq.s2
  obtain ⟨b, hb0, e1⟩ : ∃ b : Nat, 16 * q.ba = b ∧ (16 : Int) * (q.ba : Int) = (b : Int) := ⟨_, rfl, by omega⟩
  obtain ⟨n, hn0, e2⟩ : ∃ n : Nat, q.ring + 16 * q.ba = n ∧ (q.ring : Int) + (b : Int) = (n : Int) := ⟨_, rfl, by omega⟩
  rw [hn0] at k kh ⊢
  have hn : n + 16 ≤ xs.length := by omega
  have v1 : IntKind.i64.wrap (b : Int) = (b : Int) := by rw [IntKind.wrap_i64]; omega
  have v2 : IntKind.i64.wrap (n : Int) = (n : Int) := by rw [IntKind.wrap_i64]; omega
  have v7 : IntKind.i64.wrap ((n : Int) + 16) = (n : Int) + 16 := by rw [IntKind.wrap_i64]; omega
  have HP := fun W => rparse_ok (cut16 xs n) (cut16_size xs n hn) W
  have HP : ∀ W, Calls Tryz.prog 38 #[.string (cut16 xs n)] W fun e w' => e = .returned (.tuple #[(deAt xs n).v, .int .i64 0]) ∧ Below W.heap.size W w' := HP
  have hE : (⟨xs.toArray⟩ : ByteArray).extract n (n + 16) = cut16 xs n := cut_extract xs n 16
  have hs : (⟨xs.toArray⟩ : ByteArray).size = xs.length := by show xs.toArray.size = _; simp
  have hok := deAt_ok xs n hn
  obtain ⟨d, hd⟩ : ∃ d, deAt xs n = d := ⟨_, rfl⟩
  rw [hd] at HP hok k kh ⊢
  obtain ⟨S, hS⟩ : ∃ S, cut16 xs n = S := ⟨_, rfl⟩
  rw [hS] at HP hE
  obtain ⟨SB, hSB⟩ : ∃ SB : ByteArray, ⟨xs.toArray⟩ = SB := ⟨_, rfl⟩
  rw [hSB] at hE hs hk
  unfold De.v at HP
  have v3 : (n : Int) + 16 ≤ (SB.size : Int) := by omega
  have v4 : n + 16 ≤ SB.size := by omega
  have v5 : ¬ (SB.size : Int) < (n : Int) + 16 := by omega
  have v6 : ((n : Int) + 16).toNat = n + 16 := by omega
  have HU := fun W => used_rf d.f hok.f q.bw W
  rw [k] at HU
  have hg := S0.blk 0 (by simp) rfl
  have p1 : w.cell? ⟨gx, 1, none⟩ = some (.int .i64 (q.ring : Int)) := hg.cell 1
  have p7 : w.cell? ⟨gx, 7, none⟩ = some (.int .i64 (q.ba : Int)) := hg.cell 7
  have HU := Lib.hid HU
  have HP := Lib.hid HP
  have HQ := Lib.hid hq
  have S1 := S0
  have HKF := Lib.hid hF
  have HK0 := Lib.hid hk
  have hltk := World.block_lt_of_cell? w ⟨gk, 0, none⟩ hk
  have hdi := hok.id
  have hdn := hok.n
  have hlen := held_lt kh
  have hsz := le_sum q.hs d.id
  have hsm := hq.sum
  have hll := hq.hl
  have hs0 := hq.s1
  obtain ⟨X, hX⟩ : ∃ X, q.hs.getD d.id 0 = X := ⟨_, rfl⟩
  rw [hX] at hsz kh
  have HX := Lib.hid (And.intro hlen hX)
  have Hn := Lib.hid (show 0 < q.hs.length ∧ q.hs.length ≤ 32768 by omega)
  have g2 : decide (q.hs.length ≤ d.id) = false := decide_eq_false (by omega)
  have g3 : (d.id : Int) < (q.hs.length : Int) := by omega
  have g4 : (0 : Int) ≤ (d.id : Int) := by omega
  have g5 : ((X : Int) == 0) = false := by simp; omega
  have u1 : IntKind.i64.wrap (d.n : Int) = (d.n : Int) := by rw [IntKind.wrap_i64]; omega
  obtain ⟨n0, n1, n2⟩ := nx_st q.bw hs0 hs2 hs1 (k := X) (by omega)
  have HN := fun W => Sp.rnext_any (q.ba : Int) (q.size : Int) (X : Int) q.bw W
  rw [n0, n1, n2] at HN
  unfold Sp.R2 at HN
  obtain ⟨NA, hNA⟩ : ∃ NA, stA q.size q.ba X = NA := ⟨_, rfl⟩
  obtain ⟨NB, hNB⟩ : ∃ NB, stW q.size q.ba X q.bw = NB := ⟨_, rfl⟩
  rw [hNA, hNB] at HN
  have HN := Lib.hid HN
  have HNA := Lib.hid hNA
  have HNB := Lib.hid hNB
  have HKH := Lib.hid kh
  obtain ⟨i0, hi, hz0, hz1, hz2⟩ := info_parts Tryz.info3
  have HI := Lib.hid hi
  have HZ0 := Lib.hid hz0
  have HZ1 := Lib.hid hz1
  have HZ2 := Lib.hid hz2
  clear hi hz0 hz1 hz2 hNA hNB n0 n1 n2 hsz hsm hll hs0 hX kh
  clear h h' hg hq hx hok hd hS hSB hs hn hn0 hb0 hr1 hs1 hs2 S0 k hF hk
  go_enter Tryz.func9, Tryz.ntmps9
  go_wp2_with fail
  go_quiet (fail)
  have S2 := S1.drewN nq
  have hk2 : (w.drewN nq).cell? ⟨gk, 0, none⟩ = some (.string SB) := HK0.out
  obtain ⟨W1, hW1⟩ : ∃ W1, w.drewN nq = W1 := ⟨_, rfl⟩
  rw [hW1] at S2 hk2 ⊢
  have hg := S2.blk 0 (by simp) rfl
  have p0 : W1.cell? ⟨gx, 0, none⟩ = some (.pointer (some ⟨gk, 0, none⟩)) := hg.cell 0
  have hltg := hg.lt
  have hneg := Nat.ne_of_lt hltg
  have S2 := Lib.hid S2
  clear S1 hg p1 p7 hW1 e1 e2 v1 v2
  go_wp2_with fail
  refine (HP.out _).mono ?_
  rintro e w2 ⟨rfl, hq⟩
  have S3 := S2.out.below hq
  have hb3 := S3.blk 0 (by simp) rfl
  have d8 : w2.cell? ⟨gx, 8, none⟩ = some (.bool q.bw) := hb3.cell 8
  have hlt := hb3.lt
  have hne := Nat.ne_of_lt hlt
  have S3 := Lib.hid (S3.push 89 #[.int .u64 (d.a : Int), .int .u32 (d.n : Int), .int .i64 (d.id : Int), .int .i64 (d.f : Int)])
  clear S2 HP hq hb3 hk2 p0 hltg hneg
  go_wp2_with fail
  go_quiet ((go_at_call 39; exact Calls.quiet_of_same ((HU.out _).mono fun _ _ hh => ⟨hh.1, hh.2.symm⟩)))
  have S4 := S3.out.drewN nq
  obtain ⟨Wa, hWa⟩ : ∃ Wa, (w2.alloc (.cells #[.int .u64 (d.a : Int), .int .u32 (d.n : Int), .int .i64 (d.id : Int), .int .i64 (d.f : Int)] 89)).drewN nq = Wa := ⟨_, rfl⟩
  obtain ⟨K, hK⟩ : ∃ K, w2.heap.size = K := ⟨_, rfl⟩
  rw [hWa] at S4 ⊢
  rw [hK] at S4 ⊢
  clear d8 hlt hne HU hWa hK S3
  have ba_ := S4.blk 1 (by simp) rfl
  have ka_ := S4.blk 0 (by simp) rfl
  have r_ := S4.row 2 (by simp) rfl
  have d12 : Wa.cell? ⟨gx, 12, none⟩ = some (.slice A q.hs.length cap) := ba_.cell 12
  have k2 : Wa.cell? ⟨K, 2, none⟩ = some (.int .i64 (d.id : Int)) := ka_.cell 2
  have hlt := ba_.lt
  have hne := Nat.ne_of_lt hlt
  have hltk := ka_.lt
  have hnek := Nat.ne_of_lt hltk
  obtain ⟨b2, off, hA, hc⟩ := (NTab.of_own r_ rfl).at d.id hlen
  subst hA
  rw [HX.out.2] at hc
  have S4 := Lib.hid S4
  clear ba_ ka_ r_ hlen
  go_wp2_with fail
  go_quiet (fail)
  have S5 : RQ F w gx gk K #[.int .u64 (d.a : Int), .int .u32 (d.n : Int), .int .i64 (d.id : Int), .int .i64 (d.f : Int)] q b2 off cap _ := S4.out.drewN nq
  obtain ⟨Wb, hWb⟩ : ∃ Wb, World.drewN Wa nq = Wb := ⟨_, rfl⟩
  rw [hWb] at S5 ⊢
  clear d12 k2 hlt hne hltk hnek hc S4 hWb
  have hltk := (S5.blk 0 (by simp) rfl).lt
  have hnek := Nat.ne_of_lt hltk
  have hlt := (S5.blk 1 (by simp) rfl).lt
  have hne := Nat.ne_of_lt hlt
  have S6 := Lib.hid S5
  clear S5
  go_wp2_with fail
  go_region_held3 (fun W => W.cell? ⟨gx, 7, none⟩ = some (.int .i64 (q.ba : Int)) ∧ W.cell? ⟨gx, 8, none⟩ = some (.bool q.bw) ∧ W.cell? ⟨gx, 12, none⟩ = some (.slice (some ⟨b2, off, none⟩) q.hs.length cap) ∧ W.cell? ⟨gx, 2, none⟩ = some (.int .i64 (q.size : Int)) ∧ W.cell? ⟨K, 2, none⟩ = some (.int .i64 (d.id : Int)) ∧ W.cell? ⟨b2, off + d.id, none⟩ = some (.int .i64 (X : Int)))
    (with_reducible (first | exact RQ.cells S6.out.drew HX | exact RQ.cells (S6.out.alloc _).drew HX | exact RQ.cells (S6.out.drew.below hq) HX | exact RQ.cells ((S6.out.alloc _).drew.below hq) HX | exact RQ.cells ((S6.out.drew.below hq).alloc _) HX | exact RQ.cells (S6.out.st2 hq _ _) HX))
    ((go_at_call 33; ((with_reducible refine (HN.out _).mono ?_); rintro e w6 ⟨rfl, hq⟩; obtain ⟨hc1, hf1⟩ := bcell hq; have hz1 := hq.size; (try simp at hz1))))
  · have S7 := St.push (S6.out.drew.below hq) 44 #[.int .i64 (NA : Int), .bool NB]
    obtain ⟨W7, hW7⟩ : ∃ W7, w6.alloc (.cells #[.int .i64 (NA : Int), .bool NB] 44) = W7 := ⟨_, rfl⟩
    obtain ⟨K2, hK2⟩ : ∃ K2, w6.heap.size = K2 := ⟨_, rfl⟩
    rw [hW7] at S7 ⊢
    rw [hK2] at S7 ⊢
    clear hW7 hK2 hq hc1 hf1 hz1 S6 HN
    have kb2 := S7.blk 0 (by simp) rfl
    have kg := S7.blk 2 (by simp) rfl
    have x0 := kb2.cell 0
    have x1 := kb2.cell 1
    simp only [List.getElem?_toArray, List.getElem?_cons_zero, List.getElem?_cons_succ] at x0 x1
    have c12 : W7.cell? ⟨gx, 12, none⟩ = some (.slice (some ⟨b2, off, none⟩) q.hs.length cap) := kg.cell 12
    have c7 : W7.cell? ⟨gx, 7, none⟩ = some (.int .i64 (q.ba : Int)) := kg.cell 7
    have c8 : W7.cell? ⟨gx, 8, none⟩ = some (.bool q.bw) := kg.cell 8
    have f7 := kg.frozen 7
    have f8 := kg.frozen 8
    have hltg := kg.lt
    have hneg := Nat.ne_of_lt hltg
    have hlt2 := kb2.lt
    have hne2 := Nat.ne_of_lt hlt2
    have P8 := St.pushEmpty ((S7.put 2 (by simp) rfl 7 (.int .i64 (NA : Int))).put 2 (by simp) rfl 8 (.bool NB)) 3 1
    have ez : ((W7.setCell ⟨gx, 7, none⟩ (.int .i64 (NA : Int))).setCell ⟨gx, 8, none⟩ (.bool NB)).heap.size = W7.heap.size := by simp [World.setCell]
    rw [ez] at P8
    have P8 := Lib.hid P8
    have r1 := Lib.hid (P8.out.row 0 (by simp) rfl)
    have r0 := Lib.hid (P8.out.row 4 (by simp) rfl)
    clear S7 kb2 kg
    go_wp2_with (
      at_builtin
      refine wpList_append_lies _ rfl (.tmp 92) (.tmp 96) 46 rfl 0 3 i0 _ 1 8 Tryz.underlying46 HI.out HZ0.out HZ1.out HZ2.out rfl (by decide) (.slice (some ⟨W7.heap.size, 0, none⟩) 0 0) 0 [] rfl r1.out ⟨b2, off, none⟩ q.hs.length cap (intsV q.hs) rfl (by simp [intsV]) (own_cells_at r0.out Hn.out.1) (ints_one _) Hn.out.1 (by have := Hn.out.2; unfold maxLen; omega) (by have := Hn.out.2; omega) (Nat.zero_le _) _ rfl ?_
      intro g3 cap3 w9 hown hgrow hat hlt3
      have S9 := P8.out.grow 0 (by simp) rfl hown hgrow (fun x hk => by
        have e : g3 = x := by simpa [Value.ownBlock] using hk
        subst e
        rcases hat with e | e
        · exact .inl e
        · right; rw [e]; exact Nat.le_refl _)
      rw [Nat.zero_add, List.nil_append] at S9 hown
      obtain ⟨cur, hcur, hcl⟩ := own_blk3 hown Hn.out.1
      have hci : d.id < cur.size := by have := HX.out.1; omega
      obtain ⟨cv, y0⟩ : ∃ cv, w9.cell? ⟨g3, d.id, none⟩ = some cv := ⟨_, (hcur.cell d.id).trans (Array.getElem?_eq_getElem hci)⟩
      have y1 := hcur.frozen d.id
      have kk := S9.blk 2 (by simp) rfl
      have kg := S9.blk 3 (by simp) rfl
      have e1 := own_ne hown kg (by decide)
      have n1 : g3 ≠ gx := fun e => e1 (by simp [Value.ownBlock, e])
      have n2 : gx ≠ g3 := fun e => n1 e.symm
      have k2 : w9.cell? ⟨K, 2, none⟩ = some (.int .i64 (d.id : Int)) := kk.cell 2
      have c12 : w9.cell? ⟨gx, 12, none⟩ = some (.slice (some ⟨b2, off, none⟩) q.hs.length cap) := kg.cell 12
      have f12 := kg.frozen 12
      have hltg := kg.lt
      have hneg := Nat.ne_of_lt hltg
      have hltk := kk.lt
      have hnek := Nat.ne_of_lt hltk
      have hne3 := Nat.ne_of_lt hlt3
      have S9 := Lib.hid S9
      clear P8 r1 r0 hown hgrow hat hcur kk kg e1 hcl hci)
    have S11 := (S9.out.putRow 0 (by simp) rfl d.id (.int .i64 ((0 : Nat) : Int))).put 3 (by simp) rfl 12 (.slice (some ⟨g3, 0, none⟩) q.hs.length cap3)
    rw [show (Value.int IntKind.i64 ((0 : Nat) : Int)) = .int .i64 0 from rfl] at S11
    obtain ⟨W11, hW11⟩ : ∃ W11, (w9.setCell ⟨g3, d.id, none⟩ (.int .i64 0)).setCell ⟨gx, 12, none⟩ (.slice (some ⟨g3, 0, none⟩) q.hs.length cap3) = W11 := ⟨_, rfl⟩
    rw [hW11] at S11 ⊢
    clear hW11 y0 y1 n1 n2 k2 c12 f12 hltg hneg hltk hnek hne3 hlt3
    have kk := S11.blk 2 (by simp) rfl
    have k2 : W11.cell? ⟨K, 2, none⟩ = some (.int .i64 (d.id : Int)) := kk.cell 2
    have k1 : W11.cell? ⟨K, 1, none⟩ = some (.int .u32 (d.n : Int)) := kk.cell 1
    have hltk := kk.lt
    have hnek := Nat.ne_of_lt hltk
    have S11 := Lib.hid S11
    clear kk S9
    go_wp2_with fail
    go_quiet (fail)
    go_wp2_with fail
    refine bodyPost_ret (v := .tuple #[.int .i64 (d.id : Int), .int .i64 (d.n : Int), .bool true, .int .i64 0]) (rreap_results _ _ _ rfl rfl rfl rfl rfl) rfl ⟨rfl, ?_⟩
    exact reap_shut ((S11.out.erase 4 (by simp)).erase 2 (by simp) |>.erase 1 (by simp) |>.swap.drewN _) HNA.out HNB.out HX.out.2
  · have S7 := S6.out.keep2 hq (.int .i64 (NA : Int)) (.bool NB)
    obtain ⟨W7, hW7⟩ : ∃ W7, (w6.setCell ⟨Wb.heap.size, 0, none⟩ (.int .i64 (NA : Int))).setCell ⟨Wb.heap.size, 1, none⟩ (.bool NB) = W7 := ⟨_, rfl⟩
    obtain ⟨K2, hK2⟩ : ∃ K2, Wb.heap.size = K2 := ⟨_, rfl⟩
    rw [hW7] at S7 ⊢
    rw [hK2] at S7 ⊢
    clear hW7 hK2 hq hc1 hf1 hz1 S6 HN
    have kb2 := S7.blk 0 (by simp) rfl
    have kg := S7.blk 2 (by simp) rfl
    have x0 := kb2.cell 0
    have x1 := kb2.cell 1
    simp only [List.getElem?_toArray, List.getElem?_cons_zero, List.getElem?_cons_succ] at x0 x1
    have c12 : W7.cell? ⟨gx, 12, none⟩ = some (.slice (some ⟨b2, off, none⟩) q.hs.length cap) := kg.cell 12
    have c7 : W7.cell? ⟨gx, 7, none⟩ = some (.int .i64 (q.ba : Int)) := kg.cell 7
    have c8 : W7.cell? ⟨gx, 8, none⟩ = some (.bool q.bw) := kg.cell 8
    have f7 := kg.frozen 7
    have f8 := kg.frozen 8
    have hltg := kg.lt
    have hneg := Nat.ne_of_lt hltg
    have hlt2 := kb2.lt
    have hne2 := Nat.ne_of_lt hlt2
    have P8 := St.pushEmpty ((S7.put 2 (by simp) rfl 7 (.int .i64 (NA : Int))).put 2 (by simp) rfl 8 (.bool NB)) 3 1
    have ez : ((W7.setCell ⟨gx, 7, none⟩ (.int .i64 (NA : Int))).setCell ⟨gx, 8, none⟩ (.bool NB)).heap.size = W7.heap.size := by simp [World.setCell]
    rw [ez] at P8
    have P8 := Lib.hid P8
    have r1 := Lib.hid (P8.out.row 0 (by simp) rfl)
    have r0 := Lib.hid (P8.out.row 4 (by simp) rfl)
    clear S7 kb2 kg
    go_wp2_with (
      at_builtin
      refine wpList_append_lies _ rfl (.tmp 92) (.tmp 96) 46 rfl 0 3 i0 _ 1 8 Tryz.underlying46 HI.out HZ0.out HZ1.out HZ2.out rfl (by decide) (.slice (some ⟨W7.heap.size, 0, none⟩) 0 0) 0 [] rfl r1.out ⟨b2, off, none⟩ q.hs.length cap (intsV q.hs) rfl (by simp [intsV]) (own_cells_at r0.out Hn.out.1) (ints_one _) Hn.out.1 (by have := Hn.out.2; unfold maxLen; omega) (by have := Hn.out.2; omega) (Nat.zero_le _) _ rfl ?_
      intro g3 cap3 w9 hown hgrow hat hlt3
      have S9 := P8.out.grow 0 (by simp) rfl hown hgrow (fun x hk => by
        have e : g3 = x := by simpa [Value.ownBlock] using hk
        subst e
        rcases hat with e | e
        · exact .inl e
        · right; rw [e]; exact Nat.le_refl _)
      rw [Nat.zero_add, List.nil_append] at S9 hown
      obtain ⟨cur, hcur, hcl⟩ := own_blk3 hown Hn.out.1
      have hci : d.id < cur.size := by have := HX.out.1; omega
      obtain ⟨cv, y0⟩ : ∃ cv, w9.cell? ⟨g3, d.id, none⟩ = some cv := ⟨_, (hcur.cell d.id).trans (Array.getElem?_eq_getElem hci)⟩
      have y1 := hcur.frozen d.id
      have kk := S9.blk 2 (by simp) rfl
      have kg := S9.blk 3 (by simp) rfl
      have e1 := own_ne hown kg (by decide)
      have n1 : g3 ≠ gx := fun e => e1 (by simp [Value.ownBlock, e])
      have n2 : gx ≠ g3 := fun e => n1 e.symm
      have k2 : w9.cell? ⟨K, 2, none⟩ = some (.int .i64 (d.id : Int)) := kk.cell 2
      have c12 : w9.cell? ⟨gx, 12, none⟩ = some (.slice (some ⟨b2, off, none⟩) q.hs.length cap) := kg.cell 12
      have f12 := kg.frozen 12
      have hltg := kg.lt
      have hneg := Nat.ne_of_lt hltg
      have hltk := kk.lt
      have hnek := Nat.ne_of_lt hltk
      have hne3 := Nat.ne_of_lt hlt3
      have S9 := Lib.hid S9
      clear P8 r1 r0 hown hgrow hat hcur kk kg e1 hcl hci)
    have S11 := (S9.out.putRow 0 (by simp) rfl d.id (.int .i64 ((0 : Nat) : Int))).put 3 (by simp) rfl 12 (.slice (some ⟨g3, 0, none⟩) q.hs.length cap3)
    rw [show (Value.int IntKind.i64 ((0 : Nat) : Int)) = .int .i64 0 from rfl] at S11
    obtain ⟨W11, hW11⟩ : ∃ W11, (w9.setCell ⟨g3, d.id, none⟩ (.int .i64 0)).setCell ⟨gx, 12, none⟩ (.slice (some ⟨g3, 0, none⟩) q.hs.length cap3) = W11 := ⟨_, rfl⟩
    rw [hW11] at S11 ⊢
    clear hW11 y0 y1 n1 n2 k2 c12 f12 hltg hneg hltk hnek hne3 hlt3
    have kk := S11.blk 2 (by simp) rfl
    have k2 : W11.cell? ⟨K, 2, none⟩ = some (.int .i64 (d.id : Int)) := kk.cell 2
    have k1 : W11.cell? ⟨K, 1, none⟩ = some (.int .u32 (d.n : Int)) := kk.cell 1
    have hltk := kk.lt
    have hnek := Nat.ne_of_lt hltk
    have S11 := Lib.hid S11
    clear kk S9
    go_wp2_with fail
    go_quiet (fail)
    go_wp2_with fail
    refine bodyPost_ret (v := .tuple #[.int .i64 (d.id : Int), .int .i64 (d.n : Int), .bool true, .int .i64 0]) (rreap_results _ _ _ rfl rfl rfl rfl rfl) rfl ⟨rfl, ?_⟩
    exact reap_shut ((S11.out.erase 4 (by simp)).erase 2 (by simp) |>.erase 1 (by simp) |>.swap.drewN _) HNA.out HNB.out HX.out.2
end Go.Proofs.YtbpgblmhacpjlaaGreat
