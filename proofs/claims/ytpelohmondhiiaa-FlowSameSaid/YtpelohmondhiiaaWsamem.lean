/-
  For every input the law FlowSame returns true, and its arguments read afterwards as before; no condition beyond the form's own reach.
-/
import Derived.Test.YtpelohmondhiiaaMk
import Derived.Test.YtpelohmondhiiaaMl
import Derived.Test.YtpelohmondhiiaaWswsm
import Derived.Test.YtpelohmondhiiaaWswlm
namespace Go.Proofs.Ytpelohmondhiiaa
open Go.Joins Go.ChangeShapes Go.WideShapes Go.ChangeAt Go.RowKit Go.Deep
open Go.ChangeMaps (open_string)

theorem flowSame_s (v : Int) (src dst : ByteArray) (proto hops cls id flags off label : Int) (opt body : ByteArray) (gsrc gdst seq ack gflags win urgent : Int) (gopt : ByteArray) (nosum : Bool) (vlan : Int) (w : World) (gb : ByteArray) (hc : gb.size ≤ 500) (hb : gb.size ≤ 500) (ho : opt.size ≤ 140737488351232) (hq : 0 ≤ seq ∧ seq < 4294967296) (ha : 0 ≤ ack ∧ ack < 4294967296) (hgo : gopt.size ≤ 140737488351232) :
    Calls Try.prog 5 #[.agg #[.int .i64 v, .string src, .string dst, .int .i64 proto, .int .i64 hops, .int .i64 cls, .int .i64 id, .int .i64 flags, .int .i64 off, .int .i64 label, .string opt, .string body], .agg #[.int .i64 gsrc, .int .i64 gdst, .int .u32 seq, .int .u32 ack, .int .i64 gflags, .int .i64 win, .int .i64 urgent, .string gopt, .string gb, .bool nosum], .int .i64 vlan] w fun e w' => e = .returned (.bool true) ∧ Below w.heap.size w w' := by
  have A1 := fun W => seg_any ⟨v, src, dst, proto, hops, cls, id, flags, off, label, opt, ⟨#[]⟩⟩ ⟨gsrc, gdst, seq, ack, gflags, win, urgent, gopt, gb, nosum⟩ W hq ha hgo (Nat.le_trans hb (by decide))
  unfold Says at A1
  simp only at A1
  by_cases hE : segE ⟨v, src, dst, proto, hops, cls, id, flags, off, label, opt, ⟨#[]⟩⟩ ⟨gsrc, gdst, seq, ack, gflags, win, urgent, gopt, gb, nosum⟩ = 0
  · have ok : segOk ⟨v, src, dst, proto, hops, cls, id, flags, off, label, opt, ⟨#[]⟩⟩ ⟨gsrc, gdst, seq, ack, gflags, win, urgent, gopt, gb, nosum⟩ = true := by
      unfold segE at hE
      split at hE
      · assumption
      · cases hE
    rw [hE] at A1
    have hv : v = 4 ∨ v = 6 := by
      have h1 : canB ⟨v, src, dst, proto, hops, cls, id, flags, off, label, opt, ⟨#[]⟩⟩ = true := by
        simp only [segOk, Bool.and_eq_true] at ok
        exact ok.1
      rcases (canB_iff.1 h1).1 with h | h
      · exact .inl h.1
      · exact .inr h.1
    have hz := seg_size ok
    simp only at hz
    generalize segS ⟨v, src, dst, proto, hops, cls, id, flags, off, label, opt, ⟨#[]⟩⟩ ⟨gsrc, gdst, seq, ack, gflags, win, urgent, gopt, gb, nosum⟩ = S at *
    clear ok hE
    obtain ⟨M, eM⟩ : ∃ M, S ++ ⟨#[109, 111, 114, 101]⟩ = M := ⟨_, rfl⟩
    have mz : M.size = S.size + 4 := by rw [← eM, ByteArray.size_append]; rfl
    obtain ⟨hx, eh⟩ : ∃ hx, bits .xor .i64 hops 1 = hx := ⟨_, rfl⟩
    obtain ⟨cx, ek⟩ : ∃ cx, bits .xor .i64 cls 3 = cx := ⟨_, rfl⟩
    have A2 := fun W => ipB_any (⟨v, src, dst, proto, hops, cls, id, flags, off, label, opt, S⟩ : Pk) W ho (by show S.size ≤ _; omega)
    have A3 := fun W => ipB_any (⟨v, src, dst, proto, hx, cx, id, flags, off, label, opt, M⟩ : Pk) W ho (by show M.size ≤ _; omega)
    simp only at A2 A3
    by_cases hF : ipF (⟨v, src, dst, proto, hops, cls, id, flags, off, label, opt, S⟩ : Pk) = 0
    · rw [hF] at A2
      by_cases hG : ipF (⟨v, src, dst, proto, hx, cx, id, flags, off, label, opt, M⟩ : Pk) = 0
      · rw [hG] at A3
        have zT : (ipS (⟨v, src, dst, proto, hops, cls, id, flags, off, label, opt, S⟩ : Pk)).size ≤ 1500 := by
          have := ip_size hF
          simp only at this
          omega
        have zU : (ipS (⟨v, src, dst, proto, hx, cx, id, flags, off, label, opt, M⟩ : Pk)).size ≤ 1500 := by
          have := ip_size hG
          simp only [mz] at this
          omega
        obtain ⟨X, hX, eX⟩ := low16 vlan
        have n0 : 0 ≤ X.tmod 4095 ∧ X.tmod 4095 ≤ 4094 := by rw [Int.tmod_eq_emod_of_nonneg hX.1]; omega
        have TG := of_tag hF zT (X.tmod 4095) n0.1 n0.2
        have FR := of_frame hF zT
        have FU := of_frame hG zU
        have FS := flow_same (⟨v, src, dst, proto, hops, cls, id, flags, off, label, opt, S⟩ : Pk) (⟨v, src, dst, proto, hx, cx, id, flags, off, label, opt, M⟩ : Pk) rfl rfl rfl rfl rfl rfl (by show 4 ≤ S.size; omega) (by show 4 ≤ M.size; omega) (by
          apply lst_inj
          show lst (M.extract 0 4) = lst (S.extract 0 4)
          rw [← eM, lst_cut, lst_cut, lst_app, List.drop_zero, List.drop_zero, List.take_append_of_le_length (by rw [lst_len]; omega)])
        rw [FS] at FU
        have KP := kindV_pos (⟨v, src, dst, proto, hops, cls, id, flags, off, label, opt, S⟩ : Pk)
        have hK : (kindV (⟨v, src, dst, proto, hops, cls, id, flags, off, label, opt, S⟩ : Pk) != 0) = true := by simpa using (by omega : kindV (⟨v, src, dst, proto, hops, cls, id, flags, off, label, opt, S⟩ : Pk) ≠ 0)
        have A4 := fun W => framed_any (typV v) (ipS (⟨v, src, dst, proto, hops, cls, id, flags, off, label, opt, S⟩ : Pk)) W (Nat.le_trans zT (by decide))
        have A8 := fun W => framed_any (typV v) (ipS (⟨v, src, dst, proto, hx, cx, id, flags, off, label, opt, M⟩ : Pk)) W (Nat.le_trans zU (by decide))
        simp only at TG FR FU
        have A5 := fun W => tag_any (buildS (frK (typV v) (ipS (⟨v, src, dst, proto, hops, cls, id, flags, off, label, opt, S⟩ : Pk)))) (X.tmod 4095) W
        rw [TG.1] at A5
        have A6 := fun W => of_any (buildS (frK (typV v) (ipS (⟨v, src, dst, proto, hops, cls, id, flags, off, label, opt, S⟩ : Pk)))) W
        have A7 := fun W => of_any (tagT (buildS (frK (typV v) (ipS (⟨v, src, dst, proto, hops, cls, id, flags, off, label, opt, S⟩ : Pk)))) (X.tmod 4095)) W
        have A9 := fun W => of_any (buildS (frK (typV v) (ipS (⟨v, src, dst, proto, hx, cx, id, flags, off, label, opt, M⟩ : Pk)))) W
        unfold OfIs at A6 A7 A9
        rw [FR] at A6
        rw [TG.2] at A7
        rw [FU] at A9
        rcases hv with rfl | rfl
        · exact sameE4s _ _ _ _ _ _ _ _ _ _ _ _ _ _ _ _ _ _ _ _ _ w _ hc S _ _ _ _ _ eh ek eM (by omega) _ _ _ X _ _ _ eX rfl hK A1 A2 A3 A4 A5 A6 A7 A8 A9
        · exact sameE6s _ _ _ _ _ _ _ _ _ _ _ _ _ _ _ _ _ _ _ _ _ w _ hc S _ _ _ _ _ eh ek eM (by omega) _ _ _ X _ _ _ eX rfl hK A1 A2 A3 A4 A5 A6 A7 A8 A9
      · rcases hv with rfl | rfl
        · exact sameD4s _ _ _ _ _ _ _ _ _ _ _ _ _ _ _ _ _ _ _ _ _ w _ hc S _ _ _ _ _ eh ek eM (by omega) _ (by simpa using hG) A1 A2 A3
        · exact sameD6s _ _ _ _ _ _ _ _ _ _ _ _ _ _ _ _ _ _ _ _ _ w _ hc S _ _ _ _ _ eh ek eM (by omega) _ (by simpa using hG) A1 A2 A3
    · rcases hv with rfl | rfl
      · exact sameC4s _ _ _ _ _ _ _ _ _ _ _ _ _ _ _ _ _ _ _ _ _ w _ hc S _ _ _ _ _ eh ek eM (by omega) _ _ (by simpa using hF) A1 A2 A3
      · exact sameC6s _ _ _ _ _ _ _ _ _ _ _ _ _ _ _ _ _ _ _ _ _ w _ hc S _ _ _ _ _ eh ek eM (by omega) _ _ (by simpa using hF) A1 A2 A3
  · exact sameAs v _ _ _ _ _ _ _ _ _ _ _ _ _ _ _ _ _ _ _ _ _ w _ hc _ _ (by simpa using hE) A1
theorem flowSame_l (v : Int) (src dst : ByteArray) (proto hops cls id flags off label : Int) (opt body : ByteArray) (gsrc gdst seq ack gflags win urgent : Int) (gopt : ByteArray) (nosum : Bool) (vlan : Int) (w : World) (gy gb : ByteArray) (hc : 500 < gy.size) (ec : gy.extract 0 500 = gb) (hb : gb.size ≤ 500) (ho : opt.size ≤ 140737488351232) (hq : 0 ≤ seq ∧ seq < 4294967296) (ha : 0 ≤ ack ∧ ack < 4294967296) (hgo : gopt.size ≤ 140737488351232) :
    Calls Try.prog 5 #[.agg #[.int .i64 v, .string src, .string dst, .int .i64 proto, .int .i64 hops, .int .i64 cls, .int .i64 id, .int .i64 flags, .int .i64 off, .int .i64 label, .string opt, .string body], .agg #[.int .i64 gsrc, .int .i64 gdst, .int .u32 seq, .int .u32 ack, .int .i64 gflags, .int .i64 win, .int .i64 urgent, .string gopt, .string gy, .bool nosum], .int .i64 vlan] w fun e w' => e = .returned (.bool true) ∧ Below w.heap.size w w' := by
  have A1 := fun W => seg_any ⟨v, src, dst, proto, hops, cls, id, flags, off, label, opt, ⟨#[]⟩⟩ ⟨gsrc, gdst, seq, ack, gflags, win, urgent, gopt, gb, nosum⟩ W hq ha hgo (Nat.le_trans hb (by decide))
  unfold Says at A1
  simp only at A1
  by_cases hE : segE ⟨v, src, dst, proto, hops, cls, id, flags, off, label, opt, ⟨#[]⟩⟩ ⟨gsrc, gdst, seq, ack, gflags, win, urgent, gopt, gb, nosum⟩ = 0
  · have ok : segOk ⟨v, src, dst, proto, hops, cls, id, flags, off, label, opt, ⟨#[]⟩⟩ ⟨gsrc, gdst, seq, ack, gflags, win, urgent, gopt, gb, nosum⟩ = true := by
      unfold segE at hE
      split at hE
      · assumption
      · cases hE
    rw [hE] at A1
    have hv : v = 4 ∨ v = 6 := by
      have h1 : canB ⟨v, src, dst, proto, hops, cls, id, flags, off, label, opt, ⟨#[]⟩⟩ = true := by
        simp only [segOk, Bool.and_eq_true] at ok
        exact ok.1
      rcases (canB_iff.1 h1).1 with h | h
      · exact .inl h.1
      · exact .inr h.1
    have hz := seg_size ok
    simp only at hz
    generalize segS ⟨v, src, dst, proto, hops, cls, id, flags, off, label, opt, ⟨#[]⟩⟩ ⟨gsrc, gdst, seq, ack, gflags, win, urgent, gopt, gb, nosum⟩ = S at *
    clear ok hE
    obtain ⟨M, eM⟩ : ∃ M, S ++ ⟨#[109, 111, 114, 101]⟩ = M := ⟨_, rfl⟩
    have mz : M.size = S.size + 4 := by rw [← eM, ByteArray.size_append]; rfl
    obtain ⟨hx, eh⟩ : ∃ hx, bits .xor .i64 hops 1 = hx := ⟨_, rfl⟩
    obtain ⟨cx, ek⟩ : ∃ cx, bits .xor .i64 cls 3 = cx := ⟨_, rfl⟩
    have A2 := fun W => ipB_any (⟨v, src, dst, proto, hops, cls, id, flags, off, label, opt, S⟩ : Pk) W ho (by show S.size ≤ _; omega)
    have A3 := fun W => ipB_any (⟨v, src, dst, proto, hx, cx, id, flags, off, label, opt, M⟩ : Pk) W ho (by show M.size ≤ _; omega)
    simp only at A2 A3
    by_cases hF : ipF (⟨v, src, dst, proto, hops, cls, id, flags, off, label, opt, S⟩ : Pk) = 0
    · rw [hF] at A2
      by_cases hG : ipF (⟨v, src, dst, proto, hx, cx, id, flags, off, label, opt, M⟩ : Pk) = 0
      · rw [hG] at A3
        have zT : (ipS (⟨v, src, dst, proto, hops, cls, id, flags, off, label, opt, S⟩ : Pk)).size ≤ 1500 := by
          have := ip_size hF
          simp only at this
          omega
        have zU : (ipS (⟨v, src, dst, proto, hx, cx, id, flags, off, label, opt, M⟩ : Pk)).size ≤ 1500 := by
          have := ip_size hG
          simp only [mz] at this
          omega
        obtain ⟨X, hX, eX⟩ := low16 vlan
        have n0 : 0 ≤ X.tmod 4095 ∧ X.tmod 4095 ≤ 4094 := by rw [Int.tmod_eq_emod_of_nonneg hX.1]; omega
        have TG := of_tag hF zT (X.tmod 4095) n0.1 n0.2
        have FR := of_frame hF zT
        have FU := of_frame hG zU
        have FS := flow_same (⟨v, src, dst, proto, hops, cls, id, flags, off, label, opt, S⟩ : Pk) (⟨v, src, dst, proto, hx, cx, id, flags, off, label, opt, M⟩ : Pk) rfl rfl rfl rfl rfl rfl (by show 4 ≤ S.size; omega) (by show 4 ≤ M.size; omega) (by
          apply lst_inj
          show lst (M.extract 0 4) = lst (S.extract 0 4)
          rw [← eM, lst_cut, lst_cut, lst_app, List.drop_zero, List.drop_zero, List.take_append_of_le_length (by rw [lst_len]; omega)])
        rw [FS] at FU
        have KP := kindV_pos (⟨v, src, dst, proto, hops, cls, id, flags, off, label, opt, S⟩ : Pk)
        have hK : (kindV (⟨v, src, dst, proto, hops, cls, id, flags, off, label, opt, S⟩ : Pk) != 0) = true := by simpa using (by omega : kindV (⟨v, src, dst, proto, hops, cls, id, flags, off, label, opt, S⟩ : Pk) ≠ 0)
        have A4 := fun W => framed_any (typV v) (ipS (⟨v, src, dst, proto, hops, cls, id, flags, off, label, opt, S⟩ : Pk)) W (Nat.le_trans zT (by decide))
        have A8 := fun W => framed_any (typV v) (ipS (⟨v, src, dst, proto, hx, cx, id, flags, off, label, opt, M⟩ : Pk)) W (Nat.le_trans zU (by decide))
        simp only at TG FR FU
        have A5 := fun W => tag_any (buildS (frK (typV v) (ipS (⟨v, src, dst, proto, hops, cls, id, flags, off, label, opt, S⟩ : Pk)))) (X.tmod 4095) W
        rw [TG.1] at A5
        have A6 := fun W => of_any (buildS (frK (typV v) (ipS (⟨v, src, dst, proto, hops, cls, id, flags, off, label, opt, S⟩ : Pk)))) W
        have A7 := fun W => of_any (tagT (buildS (frK (typV v) (ipS (⟨v, src, dst, proto, hops, cls, id, flags, off, label, opt, S⟩ : Pk)))) (X.tmod 4095)) W
        have A9 := fun W => of_any (buildS (frK (typV v) (ipS (⟨v, src, dst, proto, hx, cx, id, flags, off, label, opt, M⟩ : Pk)))) W
        unfold OfIs at A6 A7 A9
        rw [FR] at A6
        rw [TG.2] at A7
        rw [FU] at A9
        rcases hv with rfl | rfl
        · exact sameE4l _ _ _ _ _ _ _ _ _ _ _ _ _ _ _ _ _ _ _ _ _ w _ _ hc ec S _ _ _ _ _ eh ek eM (by omega) _ _ _ X _ _ _ eX rfl hK A1 A2 A3 A4 A5 A6 A7 A8 A9
        · exact sameE6l _ _ _ _ _ _ _ _ _ _ _ _ _ _ _ _ _ _ _ _ _ w _ _ hc ec S _ _ _ _ _ eh ek eM (by omega) _ _ _ X _ _ _ eX rfl hK A1 A2 A3 A4 A5 A6 A7 A8 A9
      · rcases hv with rfl | rfl
        · exact sameD4l _ _ _ _ _ _ _ _ _ _ _ _ _ _ _ _ _ _ _ _ _ w _ _ hc ec S _ _ _ _ _ eh ek eM (by omega) _ (by simpa using hG) A1 A2 A3
        · exact sameD6l _ _ _ _ _ _ _ _ _ _ _ _ _ _ _ _ _ _ _ _ _ w _ _ hc ec S _ _ _ _ _ eh ek eM (by omega) _ (by simpa using hG) A1 A2 A3
    · rcases hv with rfl | rfl
      · exact sameC4l _ _ _ _ _ _ _ _ _ _ _ _ _ _ _ _ _ _ _ _ _ w _ _ hc ec S _ _ _ _ _ eh ek eM (by omega) _ _ (by simpa using hF) A1 A2 A3
      · exact sameC6l _ _ _ _ _ _ _ _ _ _ _ _ _ _ _ _ _ _ _ _ _ w _ _ hc ec S _ _ _ _ _ eh ek eM (by omega) _ _ (by simpa using hF) A1 A2 A3
  · exact sameAl v _ _ _ _ _ _ _ _ _ _ _ _ _ _ _ _ _ _ _ _ _ w _ _ hc ec _ _ (by simpa using hE) A1
theorem flowSame_all (p : Pk) (g : Sg) (vlan : Int) (w : World) (ho : p.opt.size ≤ 140737488351232) (hq : 0 ≤ g.seq ∧ g.seq ≤ 4294967295) (ha : 0 ≤ g.ack ∧ g.ack ≤ 4294967295) (hgo : g.opt.size ≤ 140737488351232) :
    Calls Try.prog 5 #[.agg #[.int .i64 p.v, .string p.src, .string p.dst, .int .i64 p.proto, .int .i64 p.hops, .int .i64 p.cls, .int .i64 p.id, .int .i64 p.flags, .int .i64 p.off, .int .i64 p.label, .string p.opt, .string p.body], .agg #[.int .i64 g.src, .int .i64 g.dst, .int .u32 g.seq, .int .u32 g.ack, .int .i64 g.flags, .int .i64 g.win, .int .i64 g.urgent, .string g.opt, .string g.body, .bool g.nosum], .int .i64 vlan] w fun e w' => e = .returned (.bool true) ∧ Below w.heap.size w w' := by
  by_cases h : g.body.size ≤ 500
  · exact flowSame_s p.v p.src p.dst p.proto p.hops p.cls p.id p.flags p.off p.label p.opt p.body g.src g.dst g.seq g.ack g.flags g.win g.urgent g.opt g.nosum vlan w g.body h h ho ⟨hq.1, by omega⟩ ⟨ha.1, by omega⟩ hgo
  · exact flowSame_l p.v p.src p.dst p.proto p.hops p.cls p.id p.flags p.off p.label p.opt p.body g.src g.dst g.seq g.ack g.flags g.win g.urgent g.opt g.nosum vlan w g.body _ (by omega) rfl (by rw [ByteArray.size_extract]; omega) ho ⟨hq.1, by omega⟩ ⟨ha.1, by omega⟩ hgo

set_option maxRecDepth 100000 in
theorem flowSame_lifted (os : Os) (started : os.Started) (H : Type) (enc : TypeId × Value → H) :
    ReturnsInHanded {} Try.checked os 5 .any (Rows.flowSameSpec.pre6 enc Try.prog Try.f5 Rows.flowSameRow.domain false) (Rows.flowSameSpec.post enc Try.prog Try.f5 false true false false) := by
  have e : Try.f5.params.toList = [35, 37, 3] := by rw [Try.params5]
  refine law_of_walk (C := Try.checked) (tb := 4) H enc Try.own started (by kernel_rfl) Try.func5 Try.laidOut rfl rfl Try.underlying4 ?_ ?_
    (ChangeSpec.witness6 (enc := enc) (C := Try.checked) false ⟨#[], #[.agg #[.int .i64 0, .string ByteArray.empty, .string ByteArray.empty, .int .i64 0, .int .i64 0, .int .i64 0, .int .i64 0, .int .i64 0, .int .i64 0, .int .i64 0, .string ByteArray.empty, .string ByteArray.empty], .agg #[.int .i64 0, .int .i64 0, .int .u32 0, .int .u32 0, .int .i64 0, .int .i64 0, .int .i64 0, .string ByteArray.empty, .string ByteArray.empty, .bool false], .int .i64 0], []⟩ 8 (by kernel_rfl) (by kernel_rfl) (by kernel_rfl) (by kernel_rfl)) ?_
  · rw [e]
    intro t ht
    simp only [List.mem_cons, List.not_mem_nil, or_false] at ht
    rcases ht with rfl | rfl | rfl <;> exact ⟨by kernel_rfl, of_decide_eq_true (by kernel_rfl)⟩
  · intro ds hds
    rw [e] at hds
    match ds, hds with
    | [d0, d1, d2], _ => rfl
  · intro W base args ds p hval0 hA0 hsz0
    have hval : ∀ (j : Nat) t v, Try.f5.params[j]? = some t → args[j]? = some v → Value.okWide Try.prog W .any base t v := hval0
    have hA : DataW.TrodAll enc Try.prog W 0 (fun _ => true) true Try.f5.params.toList args.toList ds p := hA0
    have hsz : (DataW.weightsEach Try.prog Try.f5.params.toList ds).all (· ≤ reachBytes) = true := hsz0
    rw [Try.params5] at hA hval hsz
    obtain ⟨v0, v1, v2, d0, d1, d2, p0, p1, p2, rfl, rfl, rfl, h0, h1, h2⟩ := trodAll_three hA
    obtain ⟨x0, rfl, rfl, b0⟩ := open_ip (hval 0 35 v0 rfl rfl) h0
    obtain ⟨x1, rfl, rfl, b1⟩ := open_seg (hval 1 37 v1 rfl rfl) h1
    obtain ⟨x2, rfl, rfl, rfl, k2⟩ := open_int Try.underlying3 (hval 2 3 v2 rfl rfl) h2
    have s0 := ip_opt_sized (j := 0) (f := x0) hsz rfl rfl
    have s1 := seg_opt_sized (j := 1) (f := x1) hsz rfl rfl
    have r1 := seg_body_sized (j := 1) (f := x1) hsz rfl rfl
    exact flowSame_all x0 x1 x2 W s0 b1.1 b1.2.1 s1

theorem flowSame_holds : Rows.FlowSameSaid :=
  OpenClaim.holds_of_wide 5 Try.f5 rfl rfl rfl rfl rfl rfl rfl ⟨rfl, rfl, rfl, rfl, rfl⟩ rfl rfl rfl rfl rfl (by kernel_rfl) Try.func5 (by kernel_rfl)
    (of_decide_eq_true (by kernel_rfl)) (by unfold Func.isWrapper; first | (rw [if_pos (by decide +kernel)]; kernel_rfl) | (rw [if_neg (by decide +kernel)]; exact ⟨rfl, rfl⟩))
    (fun os started H enc _ => flowSame_lifted os started H enc)
end Go.Proofs.Ytpelohmondhiiaa
