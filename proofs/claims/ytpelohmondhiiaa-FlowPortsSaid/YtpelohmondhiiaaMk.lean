/-
  The laws' own ground: fixed calls, arguments opened.
-/
import Derived.Test.YtpelohmondhiiaaRows
import Derived.WalkKit
import Derived.ProofKit
import Derived.OpenShut
import Derived.ShutString
import Derived.ChangeOld
import Derived.Below
import Derived.SizedLaws
import Derived.Lib.SmallJoins
import Derived.Test.YtpelohmondhiiaaMj
import Derived.Test.YtpelohmondhiiaaMf
import Derived.Test.YtpelohmondhiiaaMh
namespace Go.Proofs.Ytpelohmondhiiaa
open Go.Joins Go.ChangeShapes Go.WideShapes Go.ChangeAt Go.RowKit Go.Deep
open Go.ChangeMaps (open_string shut_string)

section
variable {H : Type} {enc : TypeId × Value → H} {P : Program}
theorem trodAll_stays (hl : laidOutB P = true) {W W' : World} (hb : Below W.heap.size W W') : ∀ (ts : List TypeId) (vs : List Value) (ds : List (DataW H)) (ps : List MemPlace),
    (∀ t ∈ ts, P.readableRec t = true ∧ t < P.types.size) → DataW.TrodAll enc P W 0 (fun _ => true) true ts vs ds ps → DataW.TrodAll enc P W' 0 (fun b => decide (b < W.heap.size)) true ts vs ds ps
  | [], vs, ds, ps, _, h => by
    obtain ⟨rfl, rfl, rfl⟩ := trodAll_nil h
    exact trodAll_mk0
  | t :: ts, vs, ds, ps, hr, h => by
    obtain ⟨v, vs', d, ds', p, q, rfl, rfl, rfl, h1, h2⟩ := trodAll_cons h
    have lt : ∀ x ∈ p, x.block < W.heap.size := by obtain ⟨m, hm⟩ := h1; exact DataW.trod_lt m _ _ _ hm
    exact trodAll_cons_mk (Below.trod hl (hr t (by simp)).1 (hr t (by simp)).2 h1 hb lt) (trodAll_stays hl hb ts vs' ds' q (fun u hu => hr u (by simp [hu])) h2)
theorem trodAll_length {W : World} : ∀ (ts : List TypeId) (vs : List Value) (ds : List (DataW H)) (ps : List MemPlace), DataW.TrodAll enc P W 0 (fun _ => true) true ts vs ds ps → ds.length = ts.length
  | [], vs, ds, ps, h => by
    obtain ⟨rfl, rfl, rfl⟩ := trodAll_nil h
    rfl
  | t :: ts, vs, ds, ps, h => by
    obtain ⟨v, vs', d, ds', p, q, rfl, rfl, rfl, h1, h2⟩ := trodAll_cons h
    simp [trodAll_length ts vs' ds' q h2]
end

/-- The row of a law from its walk. -/
theorem law_of_walk {C : Checked} {os : Os} {f : FuncId} {fn : Func} {s : ChangeSpec} {tb : TypeId} (H : Type) (enc : TypeId × Value → H)
    (own : ownKnob C.prog.godebug = none) (started : os.Started) (noInit : C.prog.inits.idxOf? f = none) (hfn : C.prog.funcs[f]? = some fn)
    (hl : laidOutB C.prog = true) (hvars : s.vars = []) (hres : fn.resultTypes = #[tb]) (hbool : C.prog.underlying tb = some .bool)
    (hread : ∀ t ∈ fn.params.toList, C.prog.readableRec t = true ∧ t < C.prog.types.size)
    (hspec : ∀ ds : List (DataW H), ds.length = fn.params.toList.length → s.fn H ds = { results := [.lit (.bool true)], args := ds })
    (witness : ∃ (w : World) (tape : Tape) (i : Input), w.os = os ∧ (w.forCall tape i).Shaped C.prog ∧ i.vars = [] ∧ Input.okWide C.prog (w.forCall tape i) .any w.heap.size f i ∧
      s.pre6 enc C.prog fn [] false (w.forCall tape i).memory i.args ∧ Assume.holds {} C.prog (lone (Frame.enter C.prog f i.args .normal) [] (w.forCall tape i)))
    (walk : ∀ (W : World) (base : Nat) (args : Array Value) (ds : List (DataW H)) (p : List MemPlace),
      (∀ (j : Nat) t v, fn.params[j]? = some t → args[j]? = some v → Value.okWide C.prog W .any base t v) →
      DataW.TrodAll enc C.prog W 0 (fun _ => true) true fn.params.toList args.toList ds p →
      (DataW.weightsEach C.prog fn.params.toList ds).all (· ≤ reachBytes) = true →
      Calls C.prog f args W fun e W' => e = .returned (.bool true) ∧ Below W.heap.size W W') :
    ReturnsInHanded {} C os f .any (s.pre6 enc C.prog fn [] false) (s.post enc C.prog fn false true false false) := by
  refine returnsInHanded_of_change_sized own started noInit hfn witness ?_
  intro W base args ds gs before hval hW _ hsz _
  have hW' := hW
  obtain ⟨p, q, hA, hV, rfl, hfz, hnd⟩ := hW
  rw [hvars] at hV
  obtain ⟨rfl, rfl⟩ := trodVars_none hV
  have hvt : s.plain.varTypes C.prog = [] := by simp [ChangeSpec.plain, DataSpec.varTypes, hvars]
  rw [hvt, List.append_nil, List.append_nil] at hsz
  refine (walk W base args ds p hval hA hsz).mono fun e W' ⟨he, bel⟩ => ?_
  have hlen := trodAll_length _ _ _ _ hA
  have hs := hspec (ds ++ []) (by simpa using hlen)
  subst he
  refine ⟨_, rfl, ds, [], _, [], p, [], hW', ?_, ?_, ?_, bel.frame _, fun h => by cases h⟩
  · rw [hs, hres]; exact trodAll_mk1 (shut_bool hbool _)
  · rw [hs]; simpa using trodAll_stays hl bel _ _ _ _ hread hA
  · rw [hs, hvars]; rfl

theorem Try.own : ownKnob Try.prog.godebug = none := by kernel_rfl
theorem Try.laidOut : laidOutB Try.prog = true := by kernel_rfl
end Go.Proofs.Ytpelohmondhiiaa
namespace Go.Proofs.Ytpelohmondhiiaa
open Go.RowKit

def frK (k : Int) (s : ByteArray) : Fr := ⟨⟨#[65, 66, 67, 68, 69, 70]⟩, ⟨#[71, 72, 73, 74, 75, 76]⟩, -1, 0, k, s⟩
theorem framed_any (k : Int) (s : ByteArray) (w : World) (hs : s.size ≤ 140737488351232) : Calls Try.prog 18 #[.int .i64 k, .string s] w fun e w' => e = .returned (.string (buildS (frK k s))) ∧ Below w.heap.size w w' := by
  have B := fun W => build_any (frK k s) W hs
  change ∀ W, Calls Try.prog 43 #[.agg #[.string ⟨#[65, 66, 67, 68, 69, 70]⟩, .string ⟨#[71, 72, 73, 74, 75, 76]⟩, .int .i64 (-1), .int .i64 0, .int .i64 k, .string s]] W _ at B
  generalize buildS (frK k s) = X at *
  generalize buildE (frK k s) = Y at *
  have HB := Lib.hid B
  clear B
  go_enter Try.func18, Try.ntmps18
  go_wp2_with (go_at_call 43; (with_reducible refine (HB.out _).mono ?_); rintro e w' ⟨rfl, hb⟩)
  go_ret
  exact ⟨rfl, hb⟩
def pk0 : Pk := ⟨4, ⟨#[10, 0, 0, 1]⟩, ⟨#[10, 0, 0, 2]⟩, 17, 0, 0, 0, 0, 0, 0, ⟨#[]⟩, ⟨#[]⟩⟩
def pk1 : Pk := ⟨4, ⟨#[10, 0, 0, 1]⟩, ⟨#[10, 0, 0, 2]⟩, 17, 0, 0, 0, 0, 0, 0, ⟨#[]⟩, ⟨#[0, 1, 0, 2, 0, 10, 131, 107, 104, 105]⟩⟩
def sg0 : Sg := ⟨1, 2, 0, 0, 0, 0, 0, ⟨#[]⟩, ⟨#[104, 105]⟩, false⟩
theorem packet_any (w : World) : Calls Try.prog 20 #[] w fun e w' => e = .returned (.agg #[.int .i64 4, .string ⟨#[10, 0, 0, 1]⟩, .string ⟨#[10, 0, 0, 2]⟩, .int .i64 17, .int .i64 0, .int .i64 0, .int .i64 0, .int .i64 0, .int .i64 0, .int .i64 0, .string ⟨#[]⟩, .string ⟨#[]⟩]) ∧ Below w.heap.size w w' := by
  go_enter Try.func20, Try.ntmps20
  go_wp2_with fail
  exact bodyPost_ret (v := .agg #[.int .i64 4, .string ⟨#[10, 0, 0, 1]⟩, .string ⟨#[10, 0, 0, 2]⟩, .int .i64 17, .int .i64 0, .int .i64 0, .int .i64 0, .int .i64 0, .int .i64 0, .int .i64 0, .string ⟨#[]⟩, .string ⟨#[]⟩]) (by simp [results, Try.results20, go_sem]) rfl ⟨rfl, (Below.refl _ _).alloc (Nat.le_refl _) _⟩
theorem fx_seg : segS pk0 sg0 = ⟨#[0, 1, 0, 2, 0, 10, 131, 107, 104, 105]⟩ ∧ segE pk0 sg0 = 0 := by decide +kernel
theorem fx_ip : ipS pk1 = ⟨#[69, 0, 0, 30, 0, 0, 0, 0, 0, 17, 166, 205, 10, 0, 0, 1, 10, 0, 0, 2, 0, 1, 0, 2, 0, 10, 131, 107, 104, 105]⟩ ∧ ipF pk1 = 0 := by decide +kernel
theorem fx_f1 : buildS (frK 2048 ⟨#[69, 0, 0, 30, 0, 0, 0, 0, 0, 17, 166, 205, 10, 0, 0, 1, 10, 0, 0, 2, 0, 1, 0, 2, 0, 10, 131, 107, 104, 105]⟩) = ⟨#[65, 66, 67, 68, 69, 70, 71, 72, 73, 74, 75, 76, 8, 0, 69, 0, 0, 30, 0, 0, 0, 0, 0, 17, 166, 205, 10, 0, 0, 1, 10, 0, 0, 2, 0, 1, 0, 2, 0, 10, 131, 107, 104, 105]⟩ := by decide +kernel
theorem fx_f2 : buildS (frK 2054 ⟨#[69, 0, 0, 30, 0, 0, 0, 0, 0, 17, 166, 205, 10, 0, 0, 1, 10, 0, 0, 2, 0, 1, 0, 2, 0, 10, 131, 107, 104, 105]⟩) = ⟨#[65, 66, 67, 68, 69, 70, 71, 72, 73, 74, 75, 76, 8, 6, 69, 0, 0, 30, 0, 0, 0, 0, 0, 17, 166, 205, 10, 0, 0, 1, 10, 0, 0, 2, 0, 1, 0, 2, 0, 10, 131, 107, 104, 105]⟩ := by decide +kernel
theorem fx_o1 : (ofV ⟨#[65, 66, 67, 68, 69, 70, 71, 72, 73, 74, 75, 76, 8, 0, 69, 0, 0, 30, 0, 0, 0, 0, 0, 17, 166, 205, 10, 0, 0, 1, 10, 0, 0, 2, 0, 1, 0, 2, 0, 10, 131, 107, 104, 105]⟩).kind = 3 ∧ (ofV ⟨#[65, 66, 67, 68, 69, 70, 71, 72, 73, 74, 75, 76, 8, 0, 69, 0, 0, 30, 0, 0, 0, 0, 0, 17, 166, 205, 10, 0, 0, 1, 10, 0, 0, 2, 0, 1, 0, 2, 0, 10, 131, 107, 104, 105]⟩).key = ⟨#[10, 0, 0, 1, 10, 0, 0, 2, 0, 1, 0, 2]⟩ := by decide +kernel
theorem fx_o2 : (ofV ⟨#[65, 66, 67, 68, 69, 70, 71, 72, 73, 74, 75, 76, 8, 6, 69, 0, 0, 30, 0, 0, 0, 0, 0, 17, 166, 205, 10, 0, 0, 1, 10, 0, 0, 2, 0, 1, 0, 2, 0, 10, 131, 107, 104, 105]⟩).kind = 0 ∧ (ofV ⟨#[65, 66, 67, 68, 69, 70, 71, 72, 73, 74, 75, 76, 8, 6, 69, 0, 0, 30, 0, 0, 0, 0, 0, 17, 166, 205, 10, 0, 0, 1, 10, 0, 0, 2, 0, 1, 0, 2, 0, 10, 131, 107, 104, 105]⟩).key = ⟨#[]⟩ := by decide +kernel
end Go.Proofs.Ytpelohmondhiiaa
namespace Go.Proofs.Ytpelohmondhiiaa
open Go.RowKit

theorem fx_str {w w' : World} (h : Held w 24 #[.int .i64 3, .string ⟨#[10, 0, 0, 1, 10, 0, 0, 2, 0, 1, 0, 2]⟩] w') : (w'.cell? ⟨w.heap.size, 0, none⟩ = some (.int .i64 3) ∧ w'.cell? ⟨w.heap.size, 1, none⟩ = some (.string ⟨#[10, 0, 0, 1, 10, 0, 0, 2, 0, 1, 0, 2]⟩)) ∧ Held w 24 #[.int .i64 3, .string ⟨#[10, 0, 0, 1, 10, 0, 0, 2, 0, 1, 0, 2]⟩] w' := ⟨⟨h.blk.cell 0, h.blk.cell 1⟩, h⟩
theorem fx_on {w w1 w' : World} (h : (w1.cell? ⟨w.heap.size, 0, none⟩ = some (.int .i64 3) ∧ w1.cell? ⟨w.heap.size, 1, none⟩ = some (.string ⟨#[10, 0, 0, 1, 10, 0, 0, 2, 0, 1, 0, 2]⟩)) ∧ Held w 24 #[.int .i64 3, .string ⟨#[10, 0, 0, 1, 10, 0, 0, 2, 0, 1, 0, 2]⟩] w1) (hq : Below w1.heap.size w1 w') : (w'.cell? ⟨w.heap.size, 0, none⟩ = some (.int .i64 3) ∧ w'.cell? ⟨w.heap.size, 1, none⟩ = some (.string ⟨#[10, 0, 0, 1, 10, 0, 0, 2, 0, 1, 0, 2]⟩)) ∧ Held w 24 #[.int .i64 3, .string ⟨#[10, 0, 0, 1, 10, 0, 0, 2, 0, 1, 0, 2]⟩] w' := fx_str (h.2.next hq)
set_option maxRecDepth 100000 in
set_option maxHeartbeats 1600000 in
theorem fixed_walk (S1 T1 F1 F2 : ByteArray) (w : World)
    (A0 : ∀ W, Calls Try.prog 20 #[] W fun e w' => e = .returned (.agg #[.int .i64 4, .string ⟨#[10, 0, 0, 1]⟩, .string ⟨#[10, 0, 0, 2]⟩, .int .i64 17, .int .i64 0, .int .i64 0, .int .i64 0, .int .i64 0, .int .i64 0, .int .i64 0, .string ⟨#[]⟩, .string ⟨#[]⟩]) ∧ Below W.heap.size W w')
    (A1 : ∀ W, Calls Try.prog 16 #[.agg #[.int .i64 4, .string ⟨#[10, 0, 0, 1]⟩, .string ⟨#[10, 0, 0, 2]⟩, .int .i64 17, .int .i64 0, .int .i64 0, .int .i64 0, .int .i64 0, .int .i64 0, .int .i64 0, .string ⟨#[]⟩, .string ⟨#[]⟩], .agg #[.int .i64 1, .int .i64 2, .int .u32 0, .int .u32 0, .int .i64 0, .int .i64 0, .int .i64 0, .string ⟨#[]⟩, .string ⟨#[104, 105]⟩, .bool false]] W fun e w' => e = .returned (.tuple #[.string S1, .int .i64 0]) ∧ Below W.heap.size W w')
    (A2 : ∀ W, Calls Try.prog 17 #[.agg #[.int .i64 4, .string ⟨#[10, 0, 0, 1]⟩, .string ⟨#[10, 0, 0, 2]⟩, .int .i64 17, .int .i64 0, .int .i64 0, .int .i64 0, .int .i64 0, .int .i64 0, .int .i64 0, .string ⟨#[]⟩, .string S1]] W fun e w' => e = .returned (.tuple #[.string T1, .int .i64 0]) ∧ Below W.heap.size W w')
    (A3 : ∀ W, Calls Try.prog 18 #[.int .i64 2048, .string T1] W fun e w' => e = .returned (.string F1) ∧ Below W.heap.size W w')
    (A4 : ∀ W, Calls Try.prog 18 #[.int .i64 2054, .string T1] W fun e w' => e = .returned (.string F2) ∧ Below W.heap.size W w')
    (A5 : ∀ W, Calls Try.prog 10 #[.string F1] W fun e w' => e = .returned (.agg #[.int .i64 3, .string ⟨#[10, 0, 0, 1, 10, 0, 0, 2, 0, 1, 0, 2]⟩]) ∧ Below W.heap.size W w')
    (A6 : ∀ W, Calls Try.prog 10 #[.string F2] W fun e w' => e = .returned (.agg #[.int .i64 0, .string ⟨#[]⟩]) ∧ Below W.heap.size W w')
    (A7 : ∀ W, Calls Try.prog 14 #[.agg #[.int .i64 3, .string ⟨#[10, 0, 0, 1, 10, 0, 0, 2, 0, 1, 0, 2]⟩]] W fun e w' => e = .returned (.agg #[.int .i64 1, .string ⟨#[10, 0, 0, 1, 10, 0, 0, 2]⟩]) ∧ Below W.heap.size W w') :
    Calls Try.prog 9 #[] w fun e w' => e = .returned (.bool true) ∧ Below w.heap.size w w' := by
  have H0 := Lib.hid A0
  have H1 := Lib.hid A1
  have H2 := Lib.hid A2
  have H3 := Lib.hid A3
  have H4 := Lib.hid A4
  have H5 := Lib.hid A5
  have H6 := Lib.hid A6
  have H7 := Lib.hid A7
  clear A0 A1 A2 A3 A4 A5 A6 A7
  have e8 : (⟨#[10, 0, 0, 1, 10, 0, 0, 2, 0, 1, 0, 2]⟩ : ByteArray).extract 0 8 = ⟨#[10, 0, 0, 1, 10, 0, 0, 2]⟩ := by decide +kernel
  go_enter Try.func9, Try.ntmps9
  go_wp2_with fail
  refine (H0.out _).mono ?_
  rintro e w1 ⟨rfl, hb1⟩
  go_wp2_with fail
  refine (H1.out _).mono ?_
  rintro e w2 ⟨rfl, hq⟩
  have hP : Blk w2 w1.heap.size 35 #[.int .i64 4, .string ⟨#[10, 0, 0, 1]⟩, .string ⟨#[10, 0, 0, 2]⟩, .int .i64 17, .int .i64 0, .int .i64 0, .int .i64 0, .int .i64 0, .int .i64 0, .int .i64 0, .string ⟨#[]⟩, .string ⟨#[]⟩] := (Blk.new w1 35 _).same (hq.block _ (by simp))
  have hb2 : Below w.heap.size w w2 := (hb1.alloc hb1.size _).trans (hq.mono (by have := hb1.size; simp; omega))
  clear hq
  have fr := hP.frozen
  have c0 := hP.cell 0
  have c1 := hP.cell 1
  have c2 := hP.cell 2
  have c3 := hP.cell 3
  have c4 := hP.cell 4
  have c5 := hP.cell 5
  have c6 := hP.cell 6
  have c7 := hP.cell 7
  have c8 := hP.cell 8
  have c9 := hP.cell 9
  have c10 := hP.cell 10
  have c11 := hP.cell 11
  simp only [List.getElem?_toArray, List.getElem?_cons_zero, List.getElem?_cons_succ] at c0 c1 c2 c3 c4 c5 c6 c7 c8 c9 c10 c11
  go_wp2_with fail
  refine (H2.out _).mono ?_
  rintro e w3 ⟨rfl, hq⟩
  have hb3 : Below w.heap.size w w3 := (hb2.setCell hb1.size _).trans (hq.mono (by have := hb2.size; simpa using this))
  clear hq hP fr c0 c1 c2 c3 c4 c5 c6 c7 c8 c9 c10 c11 hb2
  go_wp2_with fail
  refine (H3.out _).mono ?_
  rintro e w4 ⟨rfl, hq⟩
  have hb4 : Below w.heap.size w w4 := hb3.trans (hq.mono hb3.size)
  clear hq hb3
  go_wp2_with fail
  refine (H5.out _).mono ?_
  rintro e w5 ⟨rfl, hq⟩
  have hb5 : Below w.heap.size w w5 := hb4.trans (hq.mono hb4.size)
  clear hq hb4
  go_wp2_with fail
  have q0 := fx_str (Held.new w5 24 #[.int .i64 3, .string ⟨#[10, 0, 0, 1, 10, 0, 0, 2, 0, 1, 0, 2]⟩]).drew
  go_region_held (fun w' => (w'.cell? ⟨w5.heap.size, 0, none⟩ = some (.int .i64 3) ∧ w'.cell? ⟨w5.heap.size, 1, none⟩ = some (.string ⟨#[10, 0, 0, 1, 10, 0, 0, 2, 0, 1, 0, 2]⟩)) ∧ Held w5 24 #[.int .i64 3, .string ⟨#[10, 0, 0, 1, 10, 0, 0, 2, 0, 1, 0, 2]⟩] w')
    (first | exact q0 | assumption | exact fx_on (by assumption) hq)
    (first
      | (go_at_call 18; ((with_reducible refine (H4.out _).mono ?_); rintro e w' ⟨rfl, hq⟩))
      | (go_at_call 10; ((with_reducible refine (H6.out _).mono ?_); rintro e w' ⟨rfl, hq⟩))
      | (go_at_call 14; ((with_reducible refine (H7.out _).mono ?_); rintro e w' ⟨rfl, hq⟩)))
  all_goals
    rename_i hH
    have hB := hb5.trans (hH.2.below.mono hb5.size)
    go_wp2
    go_ret
    exact ⟨rfl, hB⟩
theorem fixed_any (w : World) : Calls Try.prog 9 #[] w fun e w' => e = .returned (.bool true) ∧ Below w.heap.size w w' := by
  refine fixed_walk ⟨#[0, 1, 0, 2, 0, 10, 131, 107, 104, 105]⟩ ⟨#[69, 0, 0, 30, 0, 0, 0, 0, 0, 17, 166, 205, 10, 0, 0, 1, 10, 0, 0, 2, 0, 1, 0, 2, 0, 10, 131, 107, 104, 105]⟩ ⟨#[65, 66, 67, 68, 69, 70, 71, 72, 73, 74, 75, 76, 8, 0, 69, 0, 0, 30, 0, 0, 0, 0, 0, 17, 166, 205, 10, 0, 0, 1, 10, 0, 0, 2, 0, 1, 0, 2, 0, 10, 131, 107, 104, 105]⟩ ⟨#[65, 66, 67, 68, 69, 70, 71, 72, 73, 74, 75, 76, 8, 6, 69, 0, 0, 30, 0, 0, 0, 0, 0, 17, 166, 205, 10, 0, 0, 1, 10, 0, 0, 2, 0, 1, 0, 2, 0, 10, 131, 107, 104, 105]⟩ w packet_any (fun W => ?_) (fun W => ?_) (fun W => ?_) (fun W => ?_) (fun W => ?_) (fun W => ?_) (fun W => ?_)
  · have h := seg_any pk0 sg0 W (by decide) (by decide) (by decide) (by decide)
    rw [fx_seg.1, fx_seg.2] at h
    exact h
  · have h := ipB_any pk1 W (by decide) (by decide)
    rw [fx_ip.1, fx_ip.2] at h
    exact h
  · have h := framed_any 2048 ⟨#[69, 0, 0, 30, 0, 0, 0, 0, 0, 17, 166, 205, 10, 0, 0, 1, 10, 0, 0, 2, 0, 1, 0, 2, 0, 10, 131, 107, 104, 105]⟩ W (by decide)
    rw [fx_f1] at h
    exact h
  · have h := framed_any 2054 ⟨#[69, 0, 0, 30, 0, 0, 0, 0, 0, 17, 166, 205, 10, 0, 0, 1, 10, 0, 0, 2, 0, 1, 0, 2, 0, 10, 131, 107, 104, 105]⟩ W (by decide)
    rw [fx_f2] at h
    exact h
  · have h := of_any ⟨#[65, 66, 67, 68, 69, 70, 71, 72, 73, 74, 75, 76, 8, 0, 69, 0, 0, 30, 0, 0, 0, 0, 0, 17, 166, 205, 10, 0, 0, 1, 10, 0, 0, 2, 0, 1, 0, 2, 0, 10, 131, 107, 104, 105]⟩ W
    rw [fx_o1.1, fx_o1.2] at h
    exact h
  · have h := of_any ⟨#[65, 66, 67, 68, 69, 70, 71, 72, 73, 74, 75, 76, 8, 6, 69, 0, 0, 30, 0, 0, 0, 0, 0, 17, 166, 205, 10, 0, 0, 1, 10, 0, 0, 2, 0, 1, 0, 2, 0, 10, 131, 107, 104, 105]⟩ W
    rw [fx_o2.1, fx_o2.2] at h
    exact h
  · exact less_any ⟨3, ⟨#[10, 0, 0, 1, 10, 0, 0, 2, 0, 1, 0, 2]⟩⟩ W
end Go.Proofs.Ytpelohmondhiiaa
namespace Go.Proofs.Ytpelohmondhiiaa
open Go.Joins Go.ChangeShapes Go.WideShapes Go.ChangeAt Go.RowKit Go.Deep
open Go.ChangeMaps (open_string shut_string)

theorem Try.cells24 : Try.prog.cellsOf 24 = 2 := by kernel_rfl
theorem Try.cells35 : Try.prog.cellsOf 35 = 12 := by kernel_rfl
theorem Try.cells37 : Try.prog.cellsOf 37 = 10 := by kernel_rfl

section
variable {H : Type} {enc : TypeId × Value → H} {P : Program} {w : World} {base : Nat} {spare : Nat → Bool} {held : Bool}
/-- A struct by value whose fields have a cell each: every field's own value and reading, whatever their number. -/
theorem open_fields {r : Reach} {b0 : Nat} {t : TypeId} {fs : Array Field} {v : Value} {d : DataW H} {p : List MemPlace} (hs : P.underlying t = some (.struct fs)) (hone : oneCellFields P fs = true) (hC : P.cellsOf t = fs.size)
    (hv : Value.okWide P w r b0 t v) (h : DataW.Trod enc P w base spare held t v d p) :
    ∃ (cs : List Value) (ys : List (DataW H × List MemPlace)), v = .agg cs.toArray ∧ d = .agg (ys.map (·.1)) ∧ cs.length = fs.size ∧ ys.length = fs.size ∧
      ∀ (i : Nat) (f : Field), fs[i]? = some f → ∃ (c : Value) (y : DataW H × List MemPlace) (n : Nat), cs[i]? = some c ∧ ys[i]? = some y ∧ DataW.trod enc P w base spare held n f.type [c] = some y := by
  obtain ⟨cs, rfl, hsize⟩ := okWide_struct hs hv
  obtain ⟨fuel, hf⟩ := h
  obtain ⟨ys, n, _, hx, hl, hyl, hg⟩ := DataW.trod_struct hs hf
  have hcl : cs.toList.length = fs.size := by rw [Array.length_toList, hsize, hC]
  refine ⟨cs.toList, ys, by simp, by simpa using congrArg Prod.fst hx, hcl, hyl, ?_⟩
  intro i f hi
  obtain ⟨ho, hk⟩ := hone_of hone i f hi
  have hlt : i < fs.size := (Array.getElem?_eq_some_iff.1 hi).1
  have hgi := hg i f hi
  rw [ho, hk] at hgi
  have ecut : (List.drop i (Value.agg cs).cells.toList).take 1 = [cs.toList[i]'(by omega)] := by
    have e : (Value.agg cs).cells = cs := rfl
    rw [e, List.drop_eq_getElem_cons (by omega)]; rfl
  rw [ecut] at hgi
  exact ⟨_, _, n, List.getElem?_eq_getElem (by omega), List.getElem?_eq_getElem (by omega), hgi.trans (List.getElem?_eq_getElem (by omega))⟩


def flowD (f : Fw) : DataW H := .agg [.lit (.int .i64 f.kind), .lit (.string f.key.data.toList)]
set_option maxRecDepth 100000 in
theorem open_flow {b0 : Nat} {v : Value} {d : DataW H} {p : List MemPlace} (hv : Value.okWide Try.prog w .any b0 24 v) (h : DataW.Trod enc Try.prog w base spare held 24 v d p) :
    ∃ f : Fw, v = .agg #[.int .i64 f.kind, .string f.key] ∧ d = flowD f ∧ (-9223372036854775808 ≤ f.kind ∧ f.kind ≤ 9223372036854775807) := by
  obtain ⟨cs, ys, rfl, rfl, hcl, hyl, hf⟩ := open_fields Try.underlying24 (by kernel_rfl) Try.cells24 hv h
  match cs, ys, hcl, hyl with
  | [v0, v1], [y0, y1], _, _ =>
  obtain ⟨_, _, _, i0, j0, h0⟩ := hf 0 _ rfl
  obtain ⟨_, _, _, i1, j1, h1⟩ := hf 1 _ rfl
  obtain ⟨s0, e0, d0, k0⟩ := DataW.trod_int Try.underlying3 h0
  obtain ⟨s1, e1, d1, _⟩ := DataW.trod_string Try.underlying9 h1
  simp at i0 i1 j0 j1 e0 e1
  subst i0 i1 j0 j1 e0 e1 d0 d1
  exact ⟨⟨s0, s1⟩, rfl, rfl, bounds_i64 k0⟩
theorem flow_key_sized {ts : List TypeId} {ds : List (DataW H)} {j : Nat} {f : Fw} (hsz : (DataW.weightsEach Try.prog ts ds).all (· ≤ reachBytes) = true) (ht : ts[j]? = some 24) (hd : ds[j]? = some (flowD f)) : f.key.size ≤ 140737488351232 := by
  have hm : f.key.data.toList.length ∈ DataW.weightsEach Try.prog ts ds := by
    refine DataW.weights_mem_each (j := j) (t := 24) ht hd _ ?_
    simp only [flowD, DataW.weights, Try.underlying24]
    exact DataW.weights_mem_each (j := 1) (t := 9) rfl rfl _ (by simp [DataW.weights])
  have hlen : f.key.data.toList.length ≤ reachBytes := of_decide_eq_true (List.all_eq_true.1 hsz _ hm)
  simp only [reachBytes] at hlen
  exact hlen
def ipD (f : Pk) : DataW H := .agg [.lit (.int .i64 f.v), .lit (.string f.src.data.toList), .lit (.string f.dst.data.toList), .lit (.int .i64 f.proto), .lit (.int .i64 f.hops), .lit (.int .i64 f.cls), .lit (.int .i64 f.id), .lit (.int .i64 f.flags), .lit (.int .i64 f.off), .lit (.int .i64 f.label), .lit (.string f.opt.data.toList), .lit (.string f.body.data.toList)]
set_option maxRecDepth 100000 in
theorem open_ip {b0 : Nat} {v : Value} {d : DataW H} {p : List MemPlace} (hv : Value.okWide Try.prog w .any b0 35 v) (h : DataW.Trod enc Try.prog w base spare held 35 v d p) :
    ∃ f : Pk, v = .agg #[.int .i64 f.v, .string f.src, .string f.dst, .int .i64 f.proto, .int .i64 f.hops, .int .i64 f.cls, .int .i64 f.id, .int .i64 f.flags, .int .i64 f.off, .int .i64 f.label, .string f.opt, .string f.body] ∧ d = ipD f ∧ (-9223372036854775808 ≤ f.v ∧ f.v ≤ 9223372036854775807) ∧ (-9223372036854775808 ≤ f.proto ∧ f.proto ≤ 9223372036854775807) ∧ (-9223372036854775808 ≤ f.hops ∧ f.hops ≤ 9223372036854775807) ∧ (-9223372036854775808 ≤ f.cls ∧ f.cls ≤ 9223372036854775807) ∧ (-9223372036854775808 ≤ f.id ∧ f.id ≤ 9223372036854775807) ∧ (-9223372036854775808 ≤ f.flags ∧ f.flags ≤ 9223372036854775807) ∧ (-9223372036854775808 ≤ f.off ∧ f.off ≤ 9223372036854775807) ∧ (-9223372036854775808 ≤ f.label ∧ f.label ≤ 9223372036854775807) := by
  obtain ⟨cs, ys, rfl, rfl, hcl, hyl, hf⟩ := open_fields Try.underlying35 (by kernel_rfl) Try.cells35 hv h
  match cs, ys, hcl, hyl with
  | [v0, v1, v2, v3, v4, v5, v6, v7, v8, v9, v10, v11], [y0, y1, y2, y3, y4, y5, y6, y7, y8, y9, y10, y11], _, _ =>
  obtain ⟨_, _, _, i0, j0, h0⟩ := hf 0 _ rfl
  obtain ⟨_, _, _, i1, j1, h1⟩ := hf 1 _ rfl
  obtain ⟨_, _, _, i2, j2, h2⟩ := hf 2 _ rfl
  obtain ⟨_, _, _, i3, j3, h3⟩ := hf 3 _ rfl
  obtain ⟨_, _, _, i4, j4, h4⟩ := hf 4 _ rfl
  obtain ⟨_, _, _, i5, j5, h5⟩ := hf 5 _ rfl
  obtain ⟨_, _, _, i6, j6, h6⟩ := hf 6 _ rfl
  obtain ⟨_, _, _, i7, j7, h7⟩ := hf 7 _ rfl
  obtain ⟨_, _, _, i8, j8, h8⟩ := hf 8 _ rfl
  obtain ⟨_, _, _, i9, j9, h9⟩ := hf 9 _ rfl
  obtain ⟨_, _, _, i10, j10, h10⟩ := hf 10 _ rfl
  obtain ⟨_, _, _, i11, j11, h11⟩ := hf 11 _ rfl
  obtain ⟨s0, e0, d0, k0⟩ := DataW.trod_int Try.underlying3 h0
  obtain ⟨s1, e1, d1, _⟩ := DataW.trod_string Try.underlying9 h1
  obtain ⟨s2, e2, d2, _⟩ := DataW.trod_string Try.underlying9 h2
  obtain ⟨s3, e3, d3, k3⟩ := DataW.trod_int Try.underlying3 h3
  obtain ⟨s4, e4, d4, k4⟩ := DataW.trod_int Try.underlying3 h4
  obtain ⟨s5, e5, d5, k5⟩ := DataW.trod_int Try.underlying3 h5
  obtain ⟨s6, e6, d6, k6⟩ := DataW.trod_int Try.underlying3 h6
  obtain ⟨s7, e7, d7, k7⟩ := DataW.trod_int Try.underlying3 h7
  obtain ⟨s8, e8, d8, k8⟩ := DataW.trod_int Try.underlying3 h8
  obtain ⟨s9, e9, d9, k9⟩ := DataW.trod_int Try.underlying3 h9
  obtain ⟨s10, e10, d10, _⟩ := DataW.trod_string Try.underlying9 h10
  obtain ⟨s11, e11, d11, _⟩ := DataW.trod_string Try.underlying9 h11
  simp at i0 i1 i2 i3 i4 i5 i6 i7 i8 i9 i10 i11 j0 j1 j2 j3 j4 j5 j6 j7 j8 j9 j10 j11 e0 e1 e2 e3 e4 e5 e6 e7 e8 e9 e10 e11
  subst i0 i1 i2 i3 i4 i5 i6 i7 i8 i9 i10 i11 j0 j1 j2 j3 j4 j5 j6 j7 j8 j9 j10 j11 e0 e1 e2 e3 e4 e5 e6 e7 e8 e9 e10 e11 d0 d1 d2 d3 d4 d5 d6 d7 d8 d9 d10 d11
  exact ⟨⟨s0, s1, s2, s3, s4, s5, s6, s7, s8, s9, s10, s11⟩, rfl, rfl, bounds_i64 k0, bounds_i64 k3, bounds_i64 k4, bounds_i64 k5, bounds_i64 k6, bounds_i64 k7, bounds_i64 k8, bounds_i64 k9⟩
theorem ip_src_sized {ts : List TypeId} {ds : List (DataW H)} {j : Nat} {f : Pk} (hsz : (DataW.weightsEach Try.prog ts ds).all (· ≤ reachBytes) = true) (ht : ts[j]? = some 35) (hd : ds[j]? = some (ipD f)) : f.src.size ≤ 140737488351232 := by
  have hm : f.src.data.toList.length ∈ DataW.weightsEach Try.prog ts ds := by
    refine DataW.weights_mem_each (j := j) (t := 35) ht hd _ ?_
    simp only [ipD, DataW.weights, Try.underlying35]
    exact DataW.weights_mem_each (j := 1) (t := 9) rfl rfl _ (by simp [DataW.weights])
  have hlen : f.src.data.toList.length ≤ reachBytes := of_decide_eq_true (List.all_eq_true.1 hsz _ hm)
  simp only [reachBytes] at hlen
  exact hlen
theorem ip_dst_sized {ts : List TypeId} {ds : List (DataW H)} {j : Nat} {f : Pk} (hsz : (DataW.weightsEach Try.prog ts ds).all (· ≤ reachBytes) = true) (ht : ts[j]? = some 35) (hd : ds[j]? = some (ipD f)) : f.dst.size ≤ 140737488351232 := by
  have hm : f.dst.data.toList.length ∈ DataW.weightsEach Try.prog ts ds := by
    refine DataW.weights_mem_each (j := j) (t := 35) ht hd _ ?_
    simp only [ipD, DataW.weights, Try.underlying35]
    exact DataW.weights_mem_each (j := 2) (t := 9) rfl rfl _ (by simp [DataW.weights])
  have hlen : f.dst.data.toList.length ≤ reachBytes := of_decide_eq_true (List.all_eq_true.1 hsz _ hm)
  simp only [reachBytes] at hlen
  exact hlen
theorem ip_opt_sized {ts : List TypeId} {ds : List (DataW H)} {j : Nat} {f : Pk} (hsz : (DataW.weightsEach Try.prog ts ds).all (· ≤ reachBytes) = true) (ht : ts[j]? = some 35) (hd : ds[j]? = some (ipD f)) : f.opt.size ≤ 140737488351232 := by
  have hm : f.opt.data.toList.length ∈ DataW.weightsEach Try.prog ts ds := by
    refine DataW.weights_mem_each (j := j) (t := 35) ht hd _ ?_
    simp only [ipD, DataW.weights, Try.underlying35]
    exact DataW.weights_mem_each (j := 10) (t := 9) rfl rfl _ (by simp [DataW.weights])
  have hlen : f.opt.data.toList.length ≤ reachBytes := of_decide_eq_true (List.all_eq_true.1 hsz _ hm)
  simp only [reachBytes] at hlen
  exact hlen
theorem ip_body_sized {ts : List TypeId} {ds : List (DataW H)} {j : Nat} {f : Pk} (hsz : (DataW.weightsEach Try.prog ts ds).all (· ≤ reachBytes) = true) (ht : ts[j]? = some 35) (hd : ds[j]? = some (ipD f)) : f.body.size ≤ 140737488351232 := by
  have hm : f.body.data.toList.length ∈ DataW.weightsEach Try.prog ts ds := by
    refine DataW.weights_mem_each (j := j) (t := 35) ht hd _ ?_
    simp only [ipD, DataW.weights, Try.underlying35]
    exact DataW.weights_mem_each (j := 11) (t := 9) rfl rfl _ (by simp [DataW.weights])
  have hlen : f.body.data.toList.length ≤ reachBytes := of_decide_eq_true (List.all_eq_true.1 hsz _ hm)
  simp only [reachBytes] at hlen
  exact hlen
def segD (f : Sg) : DataW H := .agg [.lit (.int .i64 f.src), .lit (.int .i64 f.dst), .lit (.int .u32 f.seq), .lit (.int .u32 f.ack), .lit (.int .i64 f.flags), .lit (.int .i64 f.win), .lit (.int .i64 f.urgent), .lit (.string f.opt.data.toList), .lit (.string f.body.data.toList), .lit (.bool f.nosum)]
set_option maxRecDepth 100000 in
theorem open_seg {b0 : Nat} {v : Value} {d : DataW H} {p : List MemPlace} (hv : Value.okWide Try.prog w .any b0 37 v) (h : DataW.Trod enc Try.prog w base spare held 37 v d p) :
    ∃ f : Sg, v = .agg #[.int .i64 f.src, .int .i64 f.dst, .int .u32 f.seq, .int .u32 f.ack, .int .i64 f.flags, .int .i64 f.win, .int .i64 f.urgent, .string f.opt, .string f.body, .bool f.nosum] ∧ d = segD f ∧ (0 ≤ f.seq ∧ f.seq ≤ 4294967295) ∧ (0 ≤ f.ack ∧ f.ack ≤ 4294967295) ∧ (-9223372036854775808 ≤ f.src ∧ f.src ≤ 9223372036854775807) ∧ (-9223372036854775808 ≤ f.dst ∧ f.dst ≤ 9223372036854775807) ∧ (-9223372036854775808 ≤ f.flags ∧ f.flags ≤ 9223372036854775807) ∧ (-9223372036854775808 ≤ f.win ∧ f.win ≤ 9223372036854775807) ∧ (-9223372036854775808 ≤ f.urgent ∧ f.urgent ≤ 9223372036854775807) := by
  obtain ⟨cs, ys, rfl, rfl, hcl, hyl, hf⟩ := open_fields Try.underlying37 (by kernel_rfl) Try.cells37 hv h
  match cs, ys, hcl, hyl with
  | [v0, v1, v2, v3, v4, v5, v6, v7, v8, v9], [y0, y1, y2, y3, y4, y5, y6, y7, y8, y9], _, _ =>
  obtain ⟨_, _, _, i0, j0, h0⟩ := hf 0 _ rfl
  obtain ⟨_, _, _, i1, j1, h1⟩ := hf 1 _ rfl
  obtain ⟨_, _, _, i2, j2, h2⟩ := hf 2 _ rfl
  obtain ⟨_, _, _, i3, j3, h3⟩ := hf 3 _ rfl
  obtain ⟨_, _, _, i4, j4, h4⟩ := hf 4 _ rfl
  obtain ⟨_, _, _, i5, j5, h5⟩ := hf 5 _ rfl
  obtain ⟨_, _, _, i6, j6, h6⟩ := hf 6 _ rfl
  obtain ⟨_, _, _, i7, j7, h7⟩ := hf 7 _ rfl
  obtain ⟨_, _, _, i8, j8, h8⟩ := hf 8 _ rfl
  obtain ⟨_, _, _, i9, j9, h9⟩ := hf 9 _ rfl
  obtain ⟨s0, e0, d0, k0⟩ := DataW.trod_int Try.underlying3 h0
  obtain ⟨s1, e1, d1, k1⟩ := DataW.trod_int Try.underlying3 h1
  obtain ⟨s2, e2, d2, k2⟩ := DataW.trod_int Try.underlying27 h2
  obtain ⟨s3, e3, d3, k3⟩ := DataW.trod_int Try.underlying27 h3
  obtain ⟨s4, e4, d4, k4⟩ := DataW.trod_int Try.underlying3 h4
  obtain ⟨s5, e5, d5, k5⟩ := DataW.trod_int Try.underlying3 h5
  obtain ⟨s6, e6, d6, k6⟩ := DataW.trod_int Try.underlying3 h6
  obtain ⟨s7, e7, d7, _⟩ := DataW.trod_string Try.underlying9 h7
  obtain ⟨s8, e8, d8, _⟩ := DataW.trod_string Try.underlying9 h8
  obtain ⟨s9, e9, d9⟩ := DataW.trod_bool Try.underlying4 h9
  simp at i0 i1 i2 i3 i4 i5 i6 i7 i8 i9 j0 j1 j2 j3 j4 j5 j6 j7 j8 j9 e0 e1 e2 e3 e4 e5 e6 e7 e8 e9
  subst i0 i1 i2 i3 i4 i5 i6 i7 i8 i9 j0 j1 j2 j3 j4 j5 j6 j7 j8 j9 e0 e1 e2 e3 e4 e5 e6 e7 e8 e9 d0 d1 d2 d3 d4 d5 d6 d7 d8 d9
  exact ⟨⟨s0, s1, s2, s3, s4, s5, s6, s7, s8, s9⟩, rfl, rfl, bounds_u32 k2, bounds_u32 k3, bounds_i64 k0, bounds_i64 k1, bounds_i64 k4, bounds_i64 k5, bounds_i64 k6⟩
theorem seg_opt_sized {ts : List TypeId} {ds : List (DataW H)} {j : Nat} {f : Sg} (hsz : (DataW.weightsEach Try.prog ts ds).all (· ≤ reachBytes) = true) (ht : ts[j]? = some 37) (hd : ds[j]? = some (segD f)) : f.opt.size ≤ 140737488351232 := by
  have hm : f.opt.data.toList.length ∈ DataW.weightsEach Try.prog ts ds := by
    refine DataW.weights_mem_each (j := j) (t := 37) ht hd _ ?_
    simp only [segD, DataW.weights, Try.underlying37]
    exact DataW.weights_mem_each (j := 7) (t := 9) rfl rfl _ (by simp [DataW.weights])
  have hlen : f.opt.data.toList.length ≤ reachBytes := of_decide_eq_true (List.all_eq_true.1 hsz _ hm)
  simp only [reachBytes] at hlen
  exact hlen
theorem seg_body_sized {ts : List TypeId} {ds : List (DataW H)} {j : Nat} {f : Sg} (hsz : (DataW.weightsEach Try.prog ts ds).all (· ≤ reachBytes) = true) (ht : ts[j]? = some 37) (hd : ds[j]? = some (segD f)) : f.body.size ≤ 140737488351232 := by
  have hm : f.body.data.toList.length ∈ DataW.weightsEach Try.prog ts ds := by
    refine DataW.weights_mem_each (j := j) (t := 37) ht hd _ ?_
    simp only [segD, DataW.weights, Try.underlying37]
    exact DataW.weights_mem_each (j := 8) (t := 9) rfl rfl _ (by simp [DataW.weights])
  have hlen : f.body.data.toList.length ≤ reachBytes := of_decide_eq_true (List.all_eq_true.1 hsz _ hm)
  simp only [reachBytes] at hlen
  exact hlen
end
end Go.Proofs.Ytpelohmondhiiaa
namespace Go.Proofs.Ytpelohmondhiiaa
open Go.Joins Go.ChangeShapes Go.WideShapes Go.ChangeAt Go.RowKit Go.Deep
open Go.ChangeMaps (open_string)

theorem held2_on {w w1 w' : World} {k : Int} {x : ByteArray} (h : (w1.cell? ⟨w.heap.size, 0, none⟩ = some (.int .i64 k) ∧ w1.cell? ⟨w.heap.size, 1, none⟩ = some (.string x)) ∧ Held w 24 #[.int .i64 k, .string x] w1) (hq : Below w1.heap.size w1 w') : (w'.cell? ⟨w.heap.size, 0, none⟩ = some (.int .i64 k) ∧ w'.cell? ⟨w.heap.size, 1, none⟩ = some (.string x)) ∧ Held w 24 #[.int .i64 k, .string x] w' := ⟨⟨(h.2.next hq).blk.cell 0, (h.2.next hq).blk.cell 1⟩, h.2.next hq⟩
theorem held2_here {w w' : World} {k : Int} {x : ByteArray} (h : Held w 24 #[.int .i64 k, .string x] w') : (w'.drew.cell? ⟨w.heap.size, 0, none⟩ = some (.int .i64 k) ∧ w'.drew.cell? ⟨w.heap.size, 1, none⟩ = some (.string x)) ∧ Held w 24 #[.int .i64 k, .string x] w'.drew := ⟨⟨h.blk.cell 0, h.blk.cell 1⟩, h.drew⟩
structure HT (g h : Nat) (cs ds : Array Value) (w w' : World) : Prop where
  blk1 : Blk w' g 24 cs
  blk2 : Blk w' h 24 ds
  below : Below w.heap.size w w'
theorem HT.next {g h : Nat} {cs ds : Array Value} {w w1 w' : World} (k : HT g h cs ds w w1) (hq : Below w1.heap.size w1 w') : HT g h cs ds w w' :=
  ⟨k.blk1.same (hq.block _ k.blk1.lt), k.blk2.same (hq.block _ k.blk2.lt), k.below.trans (hq.mono k.below.size)⟩
theorem ht_here {g h : Nat} {k l : Int} {y x : ByteArray} {w w' : World} (t : HT g h #[.int .i64 k, .string y] #[.int .i64 l, .string x] w w') : (w'.drew.cell? ⟨g, 1, none⟩ = some (.string y) ∧ w'.drew.cell? ⟨h, 0, none⟩ = some (.int .i64 l) ∧ w'.drew.cell? ⟨h, 1, none⟩ = some (.string x)) ∧ HT g h #[.int .i64 k, .string y] #[.int .i64 l, .string x] w w'.drew :=
  ⟨⟨t.blk1.cell 1, t.blk2.cell 0, t.blk2.cell 1⟩, t.blk1, t.blk2, t.below.drew⟩
theorem ht_on {g h : Nat} {k l : Int} {y x : ByteArray} {w w1 w' : World} (t : (w1.cell? ⟨g, 1, none⟩ = some (.string y) ∧ w1.cell? ⟨h, 0, none⟩ = some (.int .i64 l) ∧ w1.cell? ⟨h, 1, none⟩ = some (.string x)) ∧ HT g h #[.int .i64 k, .string y] #[.int .i64 l, .string x] w w1) (hq : Below w1.heap.size w1 w') : (w'.cell? ⟨g, 1, none⟩ = some (.string y) ∧ w'.cell? ⟨h, 0, none⟩ = some (.int .i64 l) ∧ w'.cell? ⟨h, 1, none⟩ = some (.string x)) ∧ HT g h #[.int .i64 k, .string y] #[.int .i64 l, .string x] w w' :=
  ⟨⟨(t.2.next hq).blk1.cell 1, (t.2.next hq).blk2.cell 0, (t.2.next hq).blk2.cell 1⟩, t.2.next hq⟩
theorem ht_cells {g h : Nat} {k l : Int} {y x : ByteArray} {w w' : World} (t : HT g h #[.int .i64 k, .string y] #[.int .i64 l, .string x] w w') : w'.cell? ⟨g, 1, none⟩ = some (.string y) ∧ w'.cell? ⟨h, 0, none⟩ = some (.int .i64 l) ∧ w'.cell? ⟨h, 1, none⟩ = some (.string x) :=
  ⟨t.blk1.cell 1, t.blk2.cell 0, t.blk2.cell 1⟩
theorem region_class {P : Program} {id : Nat} {Q : Exit → Act → World → Prop} {a : Act} {w : World} {l : List Oper} (C : World → Prop) (hm : P.follows .mixedOrders = true) (hB : Region.lexB .any l.toArray = true) (hC : C w.drew)
    (h : wpQuiet P l.toArray C (fun a' => ∀ w', C w' → Q .normal a' w') l a) : (Code.region id l.toArray true).wp P Q a w :=
  wp_region_quiet (C := C) hm hB hC (by simpa using h)
end Go.Proofs.Ytpelohmondhiiaa
