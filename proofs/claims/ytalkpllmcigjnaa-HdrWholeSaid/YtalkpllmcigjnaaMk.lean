/-
  The laws' own ground: arguments opened.
-/
import Derived.Test.YtalkpllmcigjnaaRows
import Derived.WalkKit
import Derived.ProofKit
import Derived.OpenShut
import Derived.ShutString
import Derived.ChangeOld
import Derived.Below
import Derived.SizedLaws
import Derived.Lib.SmallJoins
import Derived.BigQuiet
import Derived.Deep.QuietTactic
import Derived.Test.YtalkpllmcigjnaaMh
namespace Go.Proofs.Ytalkpllmcigjnaa
open Go.Joins Go.ChangeShapes Go.WideShapes Go.ChangeAt Go.RowKit Go.Deep
open Go.ChangeMaps (open_string shut_string)

section
variable {H : Type} {enc : TypeId × Value → H} {P : Program}
theorem trodAll_stays (hl : laidOutB P = true) {W W' : World} (hb : Below W.heap.size W W') : ∀ (ts : List TypeId) (vs : List Value) (ds : List (DataW H)) (ps : List MemPlace),
    (∀ t ∈ ts, P.readableRec t = true ∧ t < P.types.size) → DataW.TrodAll enc P W 0 (fun _ => true) true ts vs ds ps → DataW.TrodAll enc P W' 0 (fun b => decide (b < W.heap.size)) true ts vs ds ps
  | [], vs, ds, ps, _, h => by
    obtain ⟨rfl, rfl, rfl⟩ := trodAll_nil h
    exact trodAll_mk0
  | t :: ts, vs, ds, ps, hr, h => by
    obtain ⟨v, vs', d, ds', p, q, rfl, rfl, rfl, h1, h2⟩ := trodAll_cons h
    have lt : ∀ x ∈ p, x.block < W.heap.size := by obtain ⟨m, hm⟩ := h1; exact DataW.trod_lt m _ _ _ hm
    exact trodAll_cons_mk (Below.trod hl (hr t (by simp)).1 (hr t (by simp)).2 h1 hb lt) (trodAll_stays hl hb ts vs' ds' q (fun u hu => hr u (by simp [hu])) h2)
theorem trodAll_length {W : World} : ∀ (ts : List TypeId) (vs : List Value) (ds : List (DataW H)) (ps : List MemPlace), DataW.TrodAll enc P W 0 (fun _ => true) true ts vs ds ps → ds.length = ts.length
  | [], vs, ds, ps, h => by
    obtain ⟨rfl, rfl, rfl⟩ := trodAll_nil h
    rfl
  | t :: ts, vs, ds, ps, h => by
    obtain ⟨v, vs', d, ds', p, q, rfl, rfl, rfl, h1, h2⟩ := trodAll_cons h
    simp [trodAll_length ts vs' ds' q h2]
end

/-- The row of a law from its walk. -/
theorem law_of_walk {C : Checked} {os : Os} {f : FuncId} {fn : Func} {s : ChangeSpec} {tb : TypeId} (H : Type) (enc : TypeId × Value → H)
    (own : ownKnob C.prog.godebug = none) (started : os.Started) (noInit : C.prog.inits.idxOf? f = none) (hfn : C.prog.funcs[f]? = some fn)
    (hl : laidOutB C.prog = true) (hvars : s.vars = []) (hres : fn.resultTypes = #[tb]) (hbool : C.prog.underlying tb = some .bool)
    (hread : ∀ t ∈ fn.params.toList, C.prog.readableRec t = true ∧ t < C.prog.types.size)
    (hspec : ∀ ds : List (DataW H), ds.length = fn.params.toList.length → s.fn H ds = { results := [.lit (.bool true)], args := ds })
    (witness : ∃ (w : World) (tape : Tape) (i : Input), w.os = os ∧ (w.forCall tape i).Shaped C.prog ∧ i.vars = [] ∧ Input.okWide C.prog (w.forCall tape i) .any w.heap.size f i ∧
      s.pre6 enc C.prog fn [] false (w.forCall tape i).memory i.args ∧ Assume.holds {} C.prog (lone (Frame.enter C.prog f i.args .normal) [] (w.forCall tape i)))
    (walk : ∀ (W : World) (base : Nat) (args : Array Value) (ds : List (DataW H)) (p : List MemPlace),
      (∀ (j : Nat) t v, fn.params[j]? = some t → args[j]? = some v → Value.okWide C.prog W .any base t v) →
      DataW.TrodAll enc C.prog W 0 (fun _ => true) true fn.params.toList args.toList ds p →
      (DataW.weightsEach C.prog fn.params.toList ds).all (· ≤ reachBytes) = true →
      Calls C.prog f args W fun e W' => e = .returned (.bool true) ∧ Below W.heap.size W W') :
    ReturnsInHanded {} C os f .any (s.pre6 enc C.prog fn [] false) (s.post enc C.prog fn false true false false) := by
  refine returnsInHanded_of_change_sized own started noInit hfn witness ?_
  intro W base args ds gs before hval hW _ hsz _
  have hW' := hW
  obtain ⟨p, q, hA, hV, rfl, hfz, hnd⟩ := hW
  rw [hvars] at hV
  obtain ⟨rfl, rfl⟩ := trodVars_none hV
  have hvt : s.plain.varTypes C.prog = [] := by simp [ChangeSpec.plain, DataSpec.varTypes, hvars]
  rw [hvt, List.append_nil, List.append_nil] at hsz
  refine (walk W base args ds p hval hA hsz).mono fun e W' ⟨he, bel⟩ => ?_
  have hlen := trodAll_length _ _ _ _ hA
  have hs := hspec (ds ++ []) (by simpa using hlen)
  subst he
  refine ⟨_, rfl, ds, [], _, [], p, [], hW', ?_, ?_, ?_, bel.frame _, fun h => by cases h⟩
  · rw [hs, hres]; exact trodAll_mk1 (shut_bool hbool _)
  · rw [hs]; simpa using trodAll_stays hl bel _ _ _ _ hread hA
  · rw [hs, hvars]; rfl

theorem Try.own : ownKnob Try.prog.godebug = none := by kernel_rfl
theorem Try.laidOut : laidOutB Try.prog = true := by kernel_rfl
end Go.Proofs.Ytalkpllmcigjnaa
namespace Go.Proofs.Ytalkpllmcigjnaa
open Go.Joins Go.ChangeShapes Go.WideShapes Go.ChangeAt Go.RowKit Go.Deep
open Go.ChangeMaps (open_string)

theorem region_class {P : Program} {id : Nat} {Q : Exit → Act → World → Prop} {a : Act} {w : World} {l : List Oper} (C : World → Prop) (hm : P.follows .mixedOrders = true) (hB : Region.lexB .any l.toArray = true) (hC : C w.drew)
    (h : wpQuiet P l.toArray C (fun a' => ∀ w', C w' → Q .normal a' w') l a) : (Code.region id l.toArray true).wp P Q a w :=
  wp_region_quiet (C := C) hm hB hC (by simpa using h)
end Go.Proofs.Ytalkpllmcigjnaa
namespace Go.Proofs.Ytalkpllmcigjnaa
open Go.Joins Go.ChangeShapes Go.WideShapes Go.ChangeAt Go.RowKit Go.Deep
open Go.ChangeMaps (open_string shut_string)

theorem Try.cells23 : Try.prog.cellsOf 23 = 7 := by kernel_rfl
theorem Try.cells36 : Try.prog.cellsOf 36 = 12 := by kernel_rfl
theorem Try.cells39 : Try.prog.cellsOf 39 = 10 := by kernel_rfl

section
variable {H : Type} {enc : TypeId × Value → H} {P : Program} {w : World} {base : Nat} {spare : Nat → Bool} {held : Bool}
/-- A struct by value whose fields have a cell each: every field's own value and reading, whatever their number. -/
theorem open_fields {r : Reach} {b0 : Nat} {t : TypeId} {fs : Array Field} {v : Value} {d : DataW H} {p : List MemPlace} (hs : P.underlying t = some (.struct fs)) (hone : oneCellFields P fs = true) (hC : P.cellsOf t = fs.size)
    (hv : Value.okWide P w r b0 t v) (h : DataW.Trod enc P w base spare held t v d p) :
    ∃ (cs : List Value) (ys : List (DataW H × List MemPlace)), v = .agg cs.toArray ∧ d = .agg (ys.map (·.1)) ∧ cs.length = fs.size ∧ ys.length = fs.size ∧
      ∀ (i : Nat) (f : Field), fs[i]? = some f → ∃ (c : Value) (y : DataW H × List MemPlace) (n : Nat), cs[i]? = some c ∧ ys[i]? = some y ∧ DataW.trod enc P w base spare held n f.type [c] = some y := by
  obtain ⟨cs, rfl, hsize⟩ := okWide_struct hs hv
  obtain ⟨fuel, hf⟩ := h
  obtain ⟨ys, n, _, hx, hl, hyl, hg⟩ := DataW.trod_struct hs hf
  have hcl : cs.toList.length = fs.size := by rw [Array.length_toList, hsize, hC]
  refine ⟨cs.toList, ys, by simp, by simpa using congrArg Prod.fst hx, hcl, hyl, ?_⟩
  intro i f hi
  obtain ⟨ho, hk⟩ := hone_of hone i f hi
  have hlt : i < fs.size := (Array.getElem?_eq_some_iff.1 hi).1
  have hgi := hg i f hi
  rw [ho, hk] at hgi
  have ecut : (List.drop i (Value.agg cs).cells.toList).take 1 = [cs.toList[i]'(by omega)] := by
    have e : (Value.agg cs).cells = cs := rfl
    rw [e, List.drop_eq_getElem_cons (by omega)]; rfl
  rw [ecut] at hgi
  exact ⟨_, _, n, List.getElem?_eq_getElem (by omega), List.getElem?_eq_getElem (by omega), hgi.trans (List.getElem?_eq_getElem (by omega))⟩


def hdrD (f : Hd) : DataW H := .agg [.lit (.int .i64 f.flags), .lit (.int .i64 f.gso), .lit (.int .i64 f.len), .lit (.int .i64 f.siz), .lit (.int .i64 f.start), .lit (.int .i64 f.off), .lit (.int .i64 f.count)]
set_option maxRecDepth 100000 in
theorem open_hdr {b0 : Nat} {v : Value} {d : DataW H} {p : List MemPlace} (hv : Value.okWide Try.prog w .any b0 23 v) (h : DataW.Trod enc Try.prog w base spare held 23 v d p) :
    ∃ f : Hd, v = .agg (hdL f) ∧ d = hdrD f ∧ f.Fits := by
  obtain ⟨cs, ys, rfl, rfl, hcl, hyl, hf⟩ := open_fields Try.underlying23 (by kernel_rfl) Try.cells23 hv h
  match cs, ys, hcl, hyl with
  | [v0, v1, v2, v3, v4, v5, v6], [y0, y1, y2, y3, y4, y5, y6], _, _ =>
  obtain ⟨_, _, _, i0, j0, h0⟩ := hf 0 _ rfl
  obtain ⟨_, _, _, i1, j1, h1⟩ := hf 1 _ rfl
  obtain ⟨_, _, _, i2, j2, h2⟩ := hf 2 _ rfl
  obtain ⟨_, _, _, i3, j3, h3⟩ := hf 3 _ rfl
  obtain ⟨_, _, _, i4, j4, h4⟩ := hf 4 _ rfl
  obtain ⟨_, _, _, i5, j5, h5⟩ := hf 5 _ rfl
  obtain ⟨_, _, _, i6, j6, h6⟩ := hf 6 _ rfl
  obtain ⟨s0, e0, d0, k0⟩ := DataW.trod_int Try.underlying3 h0
  obtain ⟨s1, e1, d1, k1⟩ := DataW.trod_int Try.underlying3 h1
  obtain ⟨s2, e2, d2, k2⟩ := DataW.trod_int Try.underlying3 h2
  obtain ⟨s3, e3, d3, k3⟩ := DataW.trod_int Try.underlying3 h3
  obtain ⟨s4, e4, d4, k4⟩ := DataW.trod_int Try.underlying3 h4
  obtain ⟨s5, e5, d5, k5⟩ := DataW.trod_int Try.underlying3 h5
  obtain ⟨s6, e6, d6, k6⟩ := DataW.trod_int Try.underlying3 h6
  simp at i0 i1 i2 i3 i4 i5 i6 j0 j1 j2 j3 j4 j5 j6 e0 e1 e2 e3 e4 e5 e6
  subst i0 i1 i2 i3 i4 i5 i6 j0 j1 j2 j3 j4 j5 j6 e0 e1 e2 e3 e4 e5 e6 d0 d1 d2 d3 d4 d5 d6
  exact ⟨⟨s0, s1, s2, s3, s4, s5, s6⟩, rfl, rfl, bounds_i64 k0, bounds_i64 k1, bounds_i64 k2, bounds_i64 k3, bounds_i64 k4, bounds_i64 k5, bounds_i64 k6⟩
def ipD (f : Pk) : DataW H := .agg [.lit (.int .i64 f.v), .lit (.string f.src.data.toList), .lit (.string f.dst.data.toList), .lit (.int .i64 f.proto), .lit (.int .i64 f.hops), .lit (.int .i64 f.cls), .lit (.int .i64 f.id), .lit (.int .i64 f.flags), .lit (.int .i64 f.off), .lit (.int .i64 f.label), .lit (.string f.opt.data.toList), .lit (.string f.body.data.toList)]
set_option maxRecDepth 100000 in
theorem open_ip {b0 : Nat} {v : Value} {d : DataW H} {p : List MemPlace} (hv : Value.okWide Try.prog w .any b0 36 v) (h : DataW.Trod enc Try.prog w base spare held 36 v d p) :
    ∃ f : Pk, v = .agg #[.int .i64 f.v, .string f.src, .string f.dst, .int .i64 f.proto, .int .i64 f.hops, .int .i64 f.cls, .int .i64 f.id, .int .i64 f.flags, .int .i64 f.off, .int .i64 f.label, .string f.opt, .string f.body] ∧ d = ipD f ∧ (-9223372036854775808 ≤ f.v ∧ f.v ≤ 9223372036854775807) ∧ (-9223372036854775808 ≤ f.proto ∧ f.proto ≤ 9223372036854775807) ∧ (-9223372036854775808 ≤ f.hops ∧ f.hops ≤ 9223372036854775807) ∧ (-9223372036854775808 ≤ f.cls ∧ f.cls ≤ 9223372036854775807) ∧ (-9223372036854775808 ≤ f.id ∧ f.id ≤ 9223372036854775807) ∧ (-9223372036854775808 ≤ f.flags ∧ f.flags ≤ 9223372036854775807) ∧ (-9223372036854775808 ≤ f.off ∧ f.off ≤ 9223372036854775807) ∧ (-9223372036854775808 ≤ f.label ∧ f.label ≤ 9223372036854775807) := by
  obtain ⟨cs, ys, rfl, rfl, hcl, hyl, hf⟩ := open_fields Try.underlying36 (by kernel_rfl) Try.cells36 hv h
  match cs, ys, hcl, hyl with
  | [v0, v1, v2, v3, v4, v5, v6, v7, v8, v9, v10, v11], [y0, y1, y2, y3, y4, y5, y6, y7, y8, y9, y10, y11], _, _ =>
  obtain ⟨_, _, _, i0, j0, h0⟩ := hf 0 _ rfl
  obtain ⟨_, _, _, i1, j1, h1⟩ := hf 1 _ rfl
  obtain ⟨_, _, _, i2, j2, h2⟩ := hf 2 _ rfl
  obtain ⟨_, _, _, i3, j3, h3⟩ := hf 3 _ rfl
  obtain ⟨_, _, _, i4, j4, h4⟩ := hf 4 _ rfl
  obtain ⟨_, _, _, i5, j5, h5⟩ := hf 5 _ rfl
  obtain ⟨_, _, _, i6, j6, h6⟩ := hf 6 _ rfl
  obtain ⟨_, _, _, i7, j7, h7⟩ := hf 7 _ rfl
  obtain ⟨_, _, _, i8, j8, h8⟩ := hf 8 _ rfl
  obtain ⟨_, _, _, i9, j9, h9⟩ := hf 9 _ rfl
  obtain ⟨_, _, _, i10, j10, h10⟩ := hf 10 _ rfl
  obtain ⟨_, _, _, i11, j11, h11⟩ := hf 11 _ rfl
  obtain ⟨s0, e0, d0, k0⟩ := DataW.trod_int Try.underlying3 h0
  obtain ⟨s1, e1, d1, _⟩ := DataW.trod_string Try.underlying9 h1
  obtain ⟨s2, e2, d2, _⟩ := DataW.trod_string Try.underlying9 h2
  obtain ⟨s3, e3, d3, k3⟩ := DataW.trod_int Try.underlying3 h3
  obtain ⟨s4, e4, d4, k4⟩ := DataW.trod_int Try.underlying3 h4
  obtain ⟨s5, e5, d5, k5⟩ := DataW.trod_int Try.underlying3 h5
  obtain ⟨s6, e6, d6, k6⟩ := DataW.trod_int Try.underlying3 h6
  obtain ⟨s7, e7, d7, k7⟩ := DataW.trod_int Try.underlying3 h7
  obtain ⟨s8, e8, d8, k8⟩ := DataW.trod_int Try.underlying3 h8
  obtain ⟨s9, e9, d9, k9⟩ := DataW.trod_int Try.underlying3 h9
  obtain ⟨s10, e10, d10, _⟩ := DataW.trod_string Try.underlying9 h10
  obtain ⟨s11, e11, d11, _⟩ := DataW.trod_string Try.underlying9 h11
  simp at i0 i1 i2 i3 i4 i5 i6 i7 i8 i9 i10 i11 j0 j1 j2 j3 j4 j5 j6 j7 j8 j9 j10 j11 e0 e1 e2 e3 e4 e5 e6 e7 e8 e9 e10 e11
  subst i0 i1 i2 i3 i4 i5 i6 i7 i8 i9 i10 i11 j0 j1 j2 j3 j4 j5 j6 j7 j8 j9 j10 j11 e0 e1 e2 e3 e4 e5 e6 e7 e8 e9 e10 e11 d0 d1 d2 d3 d4 d5 d6 d7 d8 d9 d10 d11
  exact ⟨⟨s0, s1, s2, s3, s4, s5, s6, s7, s8, s9, s10, s11⟩, rfl, rfl, bounds_i64 k0, bounds_i64 k3, bounds_i64 k4, bounds_i64 k5, bounds_i64 k6, bounds_i64 k7, bounds_i64 k8, bounds_i64 k9⟩
theorem ip_src_sized {ts : List TypeId} {ds : List (DataW H)} {j : Nat} {f : Pk} (hsz : (DataW.weightsEach Try.prog ts ds).all (· ≤ reachBytes) = true) (ht : ts[j]? = some 36) (hd : ds[j]? = some (ipD f)) : f.src.size ≤ 140737488351232 := by
  have hm : f.src.data.toList.length ∈ DataW.weightsEach Try.prog ts ds := by
    refine DataW.weights_mem_each (j := j) (t := 36) ht hd _ ?_
    simp only [ipD, DataW.weights, Try.underlying36]
    exact DataW.weights_mem_each (j := 1) (t := 9) rfl rfl _ (by simp [DataW.weights])
  have hlen : f.src.data.toList.length ≤ reachBytes := of_decide_eq_true (List.all_eq_true.1 hsz _ hm)
  simp only [reachBytes] at hlen
  exact hlen
theorem ip_dst_sized {ts : List TypeId} {ds : List (DataW H)} {j : Nat} {f : Pk} (hsz : (DataW.weightsEach Try.prog ts ds).all (· ≤ reachBytes) = true) (ht : ts[j]? = some 36) (hd : ds[j]? = some (ipD f)) : f.dst.size ≤ 140737488351232 := by
  have hm : f.dst.data.toList.length ∈ DataW.weightsEach Try.prog ts ds := by
    refine DataW.weights_mem_each (j := j) (t := 36) ht hd _ ?_
    simp only [ipD, DataW.weights, Try.underlying36]
    exact DataW.weights_mem_each (j := 2) (t := 9) rfl rfl _ (by simp [DataW.weights])
  have hlen : f.dst.data.toList.length ≤ reachBytes := of_decide_eq_true (List.all_eq_true.1 hsz _ hm)
  simp only [reachBytes] at hlen
  exact hlen
theorem ip_opt_sized {ts : List TypeId} {ds : List (DataW H)} {j : Nat} {f : Pk} (hsz : (DataW.weightsEach Try.prog ts ds).all (· ≤ reachBytes) = true) (ht : ts[j]? = some 36) (hd : ds[j]? = some (ipD f)) : f.opt.size ≤ 140737488351232 := by
  have hm : f.opt.data.toList.length ∈ DataW.weightsEach Try.prog ts ds := by
    refine DataW.weights_mem_each (j := j) (t := 36) ht hd _ ?_
    simp only [ipD, DataW.weights, Try.underlying36]
    exact DataW.weights_mem_each (j := 10) (t := 9) rfl rfl _ (by simp [DataW.weights])
  have hlen : f.opt.data.toList.length ≤ reachBytes := of_decide_eq_true (List.all_eq_true.1 hsz _ hm)
  simp only [reachBytes] at hlen
  exact hlen
theorem ip_body_sized {ts : List TypeId} {ds : List (DataW H)} {j : Nat} {f : Pk} (hsz : (DataW.weightsEach Try.prog ts ds).all (· ≤ reachBytes) = true) (ht : ts[j]? = some 36) (hd : ds[j]? = some (ipD f)) : f.body.size ≤ 140737488351232 := by
  have hm : f.body.data.toList.length ∈ DataW.weightsEach Try.prog ts ds := by
    refine DataW.weights_mem_each (j := j) (t := 36) ht hd _ ?_
    simp only [ipD, DataW.weights, Try.underlying36]
    exact DataW.weights_mem_each (j := 11) (t := 9) rfl rfl _ (by simp [DataW.weights])
  have hlen : f.body.data.toList.length ≤ reachBytes := of_decide_eq_true (List.all_eq_true.1 hsz _ hm)
  simp only [reachBytes] at hlen
  exact hlen
def segD (f : Sg) : DataW H := .agg [.lit (.int .i64 f.src), .lit (.int .i64 f.dst), .lit (.int .u32 f.seq), .lit (.int .u32 f.ack), .lit (.int .i64 f.flags), .lit (.int .i64 f.win), .lit (.int .i64 f.urgent), .lit (.string f.opt.data.toList), .lit (.string f.body.data.toList), .lit (.bool f.nosum)]
set_option maxRecDepth 100000 in
theorem open_seg {b0 : Nat} {v : Value} {d : DataW H} {p : List MemPlace} (hv : Value.okWide Try.prog w .any b0 39 v) (h : DataW.Trod enc Try.prog w base spare held 39 v d p) :
    ∃ f : Sg, v = .agg #[.int .i64 f.src, .int .i64 f.dst, .int .u32 f.seq, .int .u32 f.ack, .int .i64 f.flags, .int .i64 f.win, .int .i64 f.urgent, .string f.opt, .string f.body, .bool f.nosum] ∧ d = segD f ∧ (0 ≤ f.seq ∧ f.seq ≤ 4294967295) ∧ (0 ≤ f.ack ∧ f.ack ≤ 4294967295) ∧ (-9223372036854775808 ≤ f.src ∧ f.src ≤ 9223372036854775807) ∧ (-9223372036854775808 ≤ f.dst ∧ f.dst ≤ 9223372036854775807) ∧ (-9223372036854775808 ≤ f.flags ∧ f.flags ≤ 9223372036854775807) ∧ (-9223372036854775808 ≤ f.win ∧ f.win ≤ 9223372036854775807) ∧ (-9223372036854775808 ≤ f.urgent ∧ f.urgent ≤ 9223372036854775807) := by
  obtain ⟨cs, ys, rfl, rfl, hcl, hyl, hf⟩ := open_fields Try.underlying39 (by kernel_rfl) Try.cells39 hv h
  match cs, ys, hcl, hyl with
  | [v0, v1, v2, v3, v4, v5, v6, v7, v8, v9], [y0, y1, y2, y3, y4, y5, y6, y7, y8, y9], _, _ =>
  obtain ⟨_, _, _, i0, j0, h0⟩ := hf 0 _ rfl
  obtain ⟨_, _, _, i1, j1, h1⟩ := hf 1 _ rfl
  obtain ⟨_, _, _, i2, j2, h2⟩ := hf 2 _ rfl
  obtain ⟨_, _, _, i3, j3, h3⟩ := hf 3 _ rfl
  obtain ⟨_, _, _, i4, j4, h4⟩ := hf 4 _ rfl
  obtain ⟨_, _, _, i5, j5, h5⟩ := hf 5 _ rfl
  obtain ⟨_, _, _, i6, j6, h6⟩ := hf 6 _ rfl
  obtain ⟨_, _, _, i7, j7, h7⟩ := hf 7 _ rfl
  obtain ⟨_, _, _, i8, j8, h8⟩ := hf 8 _ rfl
  obtain ⟨_, _, _, i9, j9, h9⟩ := hf 9 _ rfl
  obtain ⟨s0, e0, d0, k0⟩ := DataW.trod_int Try.underlying3 h0
  obtain ⟨s1, e1, d1, k1⟩ := DataW.trod_int Try.underlying3 h1
  obtain ⟨s2, e2, d2, k2⟩ := DataW.trod_int Try.underlying37 h2
  obtain ⟨s3, e3, d3, k3⟩ := DataW.trod_int Try.underlying37 h3
  obtain ⟨s4, e4, d4, k4⟩ := DataW.trod_int Try.underlying3 h4
  obtain ⟨s5, e5, d5, k5⟩ := DataW.trod_int Try.underlying3 h5
  obtain ⟨s6, e6, d6, k6⟩ := DataW.trod_int Try.underlying3 h6
  obtain ⟨s7, e7, d7, _⟩ := DataW.trod_string Try.underlying9 h7
  obtain ⟨s8, e8, d8, _⟩ := DataW.trod_string Try.underlying9 h8
  obtain ⟨s9, e9, d9⟩ := DataW.trod_bool Try.underlying4 h9
  simp at i0 i1 i2 i3 i4 i5 i6 i7 i8 i9 j0 j1 j2 j3 j4 j5 j6 j7 j8 j9 e0 e1 e2 e3 e4 e5 e6 e7 e8 e9
  subst i0 i1 i2 i3 i4 i5 i6 i7 i8 i9 j0 j1 j2 j3 j4 j5 j6 j7 j8 j9 e0 e1 e2 e3 e4 e5 e6 e7 e8 e9 d0 d1 d2 d3 d4 d5 d6 d7 d8 d9
  exact ⟨⟨s0, s1, s2, s3, s4, s5, s6, s7, s8, s9⟩, rfl, rfl, bounds_u32 k2, bounds_u32 k3, bounds_i64 k0, bounds_i64 k1, bounds_i64 k4, bounds_i64 k5, bounds_i64 k6⟩
theorem seg_opt_sized {ts : List TypeId} {ds : List (DataW H)} {j : Nat} {f : Sg} (hsz : (DataW.weightsEach Try.prog ts ds).all (· ≤ reachBytes) = true) (ht : ts[j]? = some 39) (hd : ds[j]? = some (segD f)) : f.opt.size ≤ 140737488351232 := by
  have hm : f.opt.data.toList.length ∈ DataW.weightsEach Try.prog ts ds := by
    refine DataW.weights_mem_each (j := j) (t := 39) ht hd _ ?_
    simp only [segD, DataW.weights, Try.underlying39]
    exact DataW.weights_mem_each (j := 7) (t := 9) rfl rfl _ (by simp [DataW.weights])
  have hlen : f.opt.data.toList.length ≤ reachBytes := of_decide_eq_true (List.all_eq_true.1 hsz _ hm)
  simp only [reachBytes] at hlen
  exact hlen
theorem seg_body_sized {ts : List TypeId} {ds : List (DataW H)} {j : Nat} {f : Sg} (hsz : (DataW.weightsEach Try.prog ts ds).all (· ≤ reachBytes) = true) (ht : ts[j]? = some 39) (hd : ds[j]? = some (segD f)) : f.body.size ≤ 140737488351232 := by
  have hm : f.body.data.toList.length ∈ DataW.weightsEach Try.prog ts ds := by
    refine DataW.weights_mem_each (j := j) (t := 39) ht hd _ ?_
    simp only [segD, DataW.weights, Try.underlying39]
    exact DataW.weights_mem_each (j := 8) (t := 9) rfl rfl _ (by simp [DataW.weights])
  have hlen : f.body.data.toList.length ≤ reachBytes := of_decide_eq_true (List.all_eq_true.1 hsz _ hm)
  simp only [reachBytes] at hlen
  exact hlen
end
end Go.Proofs.Ytalkpllmcigjnaa
