/-
  For every input the law FlowPorts returns true, and its arguments read afterwards as before; no condition beyond the form's own reach.
-/
import Derived.Test.YtpelohmondhiiaaMk
import Derived.Test.YtpelohmondhiiaaMl
import Derived.Test.YtpelohmondhiiaaWpwssm
import Derived.Test.YtpelohmondhiiaaWpwslm
import Derived.Test.YtpelohmondhiiaaWpwlsm
import Derived.Test.YtpelohmondhiiaaWpwllm
namespace Go.Proofs.Ytpelohmondhiiaa
open Go.Joins Go.ChangeShapes Go.WideShapes Go.ChangeAt Go.RowKit Go.Deep
open Go.ChangeMaps (open_string)

theorem canB_of {p : Pk} {g : Sg} (ok : segOk p g = true) : canB p = true ∧ (0 ≤ g.src ∧ g.src ≤ 65535) ∧ (0 ≤ g.dst ∧ g.dst ≤ 65535) := by
  simp only [segOk, portsOk, Bool.and_eq_true] at ok
  exact ⟨ok.1, inB_iff.1 ok.2.1.1, inB_iff.1 ok.2.1.2⟩
theorem segE_ok {p : Pk} {g : Sg} (h : segE p g = 0) : segOk p g = true := by
  unfold segE at h
  split at h
  · assumption
  · cases h
/-- The flow of a packet that carries a segment. -/
theorem ports_flow (p : Pk) (h : canB p = true) : ∃ K : Int, ∀ q : Pk, q.v = p.v → q.src = p.src → q.dst = p.dst → q.proto = p.proto → q.flags = p.flags → q.off = p.off → 4 ≤ q.body.size → kindV q = K ∧ keyV q = p.src ++ p.dst ++ q.body.extract 0 4 := by
  obtain ⟨_, hp, ho, hf⟩ := canB_iff.1 h
  rcases hp with hp | hp
  · refine ⟨(if p.v = 4 then 1 else 4) + 1, fun q h1 h2 h3 h4 h5 h6 h7 => ?_⟩
    have F := (flow_is q _ rfl).1 ⟨shB_iff.2 ⟨by rw [h6, ho], by rw [h5, hf], h7⟩, by rw [h4, hp]⟩
    have F1 := congrArg Fw.kind F
    have F2 := congrArg Fw.key F
    simp only [h1, h2, h3] at F1 F2
    exact ⟨F1, F2⟩
  · refine ⟨(if p.v = 4 then 1 else 4) + 2, fun q h1 h2 h3 h4 h5 h6 h7 => ?_⟩
    have F := (flow_is q _ rfl).2.1 ⟨shB_iff.2 ⟨by rw [h6, ho], by rw [h5, hf], h7⟩, by rw [h4, hp]⟩
    have F1 := congrArg Fw.kind F
    have F2 := congrArg Fw.key F
    simp only [h1, h2, h3] at F1 F2
    exact ⟨F1, F2⟩
theorem bs_inj {x y : Int} (h : lst (bs x 2) = lst (bs y 2)) (h0 : 0 ≤ x ∧ x ≤ 65535) (h1 : 0 ≤ y ∧ y ≤ 65535) : x = y := by
  have e1 := nat_bs x 2 h0.1 (by omega)
  have e2 := nat_bs y 2 h1.1 (by omega)
  rw [h] at e1
  omega
theorem ports_key {A S T : ByteArray} {a1 a2 b1 b2 : Int} (hs : lst (S.extract 0 4) = lst (bs a1 2) ++ lst (bs a2 2)) (ht : lst (T.extract 0 4) = lst (bs b1 2) ++ lst (bs b2 2))
    (k1 : 0 ≤ a1 ∧ a1 ≤ 65535) (k2 : 0 ≤ a2 ∧ a2 ≤ 65535) (k3 : 0 ≤ b1 ∧ b1 ≤ 65535) (k4 : 0 ≤ b2 ∧ b2 ≤ 65535) (h : A ++ S.extract 0 4 = A ++ T.extract 0 4) : a1 = b1 ∧ a2 = b2 := by
  have h1 := congrArg lst h
  rw [lst_app, lst_app] at h1
  have h2 := List.append_cancel_left h1
  rw [hs, ht] at h2
  obtain ⟨h3, h4⟩ := List.append_inj h2 (by rw [bs_len, bs_len])
  exact ⟨bs_inj h3 k1 k3, bs_inj h4 k2 k4⟩
theorem ports_same {S T : ByteArray} {a1 a2 : Int} (hs : lst (S.extract 0 4) = lst (bs a1 2) ++ lst (bs a2 2)) (ht : lst (T.extract 0 4) = lst (bs a1 2) ++ lst (bs a2 2)) : S.extract 0 4 = T.extract 0 4 := lst_inj (hs.trans ht.symm)
theorem flowPorts_ss (v : Int) (src dst : ByteArray) (proto hops cls id flags off label : Int) (opt body : ByteArray) (asrc adst aseq aack aflags awin aurg : Int) (aopt : ByteArray) (anosum : Bool) (bsrc bdst bseq back bflags bwin burg : Int) (bopt : ByteArray) (bnosum : Bool) (w : World) (ab : ByteArray) (hca : ab.size ≤ 300) (bb : ByteArray) (hcb : bb.size ≤ 300) (ha : ab.size ≤ 300) (hb : bb.size ≤ 300) (ho : opt.size ≤ 140737488351232) (q1 : 0 ≤ aseq ∧ aseq < 4294967296) (q2 : 0 ≤ aack ∧ aack < 4294967296) (q3 : aopt.size ≤ 140737488351232) (q4 : 0 ≤ bseq ∧ bseq < 4294967296) (q5 : 0 ≤ back ∧ back < 4294967296) (q6 : bopt.size ≤ 140737488351232) :
    Calls Try.prog 8 #[.agg #[.int .i64 v, .string src, .string dst, .int .i64 proto, .int .i64 hops, .int .i64 cls, .int .i64 id, .int .i64 flags, .int .i64 off, .int .i64 label, .string opt, .string body], .agg #[.int .i64 asrc, .int .i64 adst, .int .u32 aseq, .int .u32 aack, .int .i64 aflags, .int .i64 awin, .int .i64 aurg, .string aopt, .string ab, .bool anosum], .agg #[.int .i64 bsrc, .int .i64 bdst, .int .u32 bseq, .int .u32 back, .int .i64 bflags, .int .i64 bwin, .int .i64 burg, .string bopt, .string bb, .bool bnosum]] w fun e w' => e = .returned (.bool true) ∧ Below w.heap.size w w' := by
  have A1 := fun W => seg_any ⟨v, src, dst, proto, hops, cls, id, flags, off, label, opt, ⟨#[]⟩⟩ ⟨asrc, adst, aseq, aack, aflags, awin, aurg, aopt, ab, anosum⟩ W q1 q2 q3 (Nat.le_trans ha (by decide))
  have A2 := fun W => seg_any ⟨v, src, dst, proto, hops, cls, id, flags, off, label, opt, ⟨#[]⟩⟩ ⟨bsrc, bdst, bseq, back, bflags, bwin, burg, bopt, bb, bnosum⟩ W q4 q5 q6 (Nat.le_trans hb (by decide))
  unfold Says at A1 A2
  simp only at A1 A2
  by_cases hE : segE ⟨v, src, dst, proto, hops, cls, id, flags, off, label, opt, ⟨#[]⟩⟩ ⟨asrc, adst, aseq, aack, aflags, awin, aurg, aopt, ab, anosum⟩ = 0
  · rw [hE] at A1
    by_cases hD : segE ⟨v, src, dst, proto, hops, cls, id, flags, off, label, opt, ⟨#[]⟩⟩ ⟨bsrc, bdst, bseq, back, bflags, bwin, burg, bopt, bb, bnosum⟩ = 0
    · rw [hD] at A2
      have ok1 := segE_ok hE
      have ok2 := segE_ok hD
      have z1 := seg_size ok1
      have z2 := seg_size ok2
      have f1 := (seg_first ok1).1
      have f2 := (seg_first ok2).1
      obtain ⟨hc, k1, k2⟩ := canB_of ok1
      obtain ⟨_, k3, k4⟩ := canB_of ok2
      obtain ⟨K, PF⟩ := ports_flow _ hc
      have hv : v = 4 ∨ v = 6 := by
        rcases (canB_iff.1 hc).1 with h | h
        · exact .inl h.1
        · exact .inr h.1
      simp only at z1 z2 f1 f2 k1 k2 k3 k4
      generalize segS ⟨v, src, dst, proto, hops, cls, id, flags, off, label, opt, ⟨#[]⟩⟩ ⟨asrc, adst, aseq, aack, aflags, awin, aurg, aopt, ab, anosum⟩ = S at *
      generalize segS ⟨v, src, dst, proto, hops, cls, id, flags, off, label, opt, ⟨#[]⟩⟩ ⟨bsrc, bdst, bseq, back, bflags, bwin, burg, bopt, bb, bnosum⟩ = T at *
      clear ok1 ok2 hE hD hc
      have A3 := fun W => ipB_any (⟨v, src, dst, proto, hops, cls, id, flags, off, label, opt, S⟩ : Pk) W ho (by show S.size ≤ _; omega)
      have A4 := fun W => ipB_any (⟨v, src, dst, proto, hops, cls, id, flags, off, label, opt, T⟩ : Pk) W ho (by show T.size ≤ _; omega)
      simp only at A3 A4
      by_cases hF : ipF (⟨v, src, dst, proto, hops, cls, id, flags, off, label, opt, S⟩ : Pk) = 0
      · rw [hF] at A3
        by_cases hG : ipF (⟨v, src, dst, proto, hops, cls, id, flags, off, label, opt, T⟩ : Pk) = 0
        · rw [hG] at A4
          have zT : (ipS (⟨v, src, dst, proto, hops, cls, id, flags, off, label, opt, S⟩ : Pk)).size ≤ 1500 := by
            have := ip_size hF
            simp only at this
            omega
          have zU : (ipS (⟨v, src, dst, proto, hops, cls, id, flags, off, label, opt, T⟩ : Pk)).size ≤ 1500 := by
            have := ip_size hG
            simp only at this
            omega
          have FR := of_frame hF zT
          have FU := of_frame hG zU
          obtain ⟨m1, m2⟩ := PF (⟨v, src, dst, proto, hops, cls, id, flags, off, label, opt, S⟩ : Pk) rfl rfl rfl rfl rfl rfl (by show 4 ≤ S.size; omega)
          obtain ⟨m3, m4⟩ := PF (⟨v, src, dst, proto, hops, cls, id, flags, off, label, opt, T⟩ : Pk) rfl rfl rfl rfl rfl rfl (by show 4 ≤ T.size; omega)
          rw [m1, m2] at FR
          rw [m3, m4] at FU
          simp only at FR FU
          have A5 := fun W => framed_any (typV v) (ipS (⟨v, src, dst, proto, hops, cls, id, flags, off, label, opt, S⟩ : Pk)) W (Nat.le_trans zT (by decide))
          have A7 := fun W => framed_any (typV v) (ipS (⟨v, src, dst, proto, hops, cls, id, flags, off, label, opt, T⟩ : Pk)) W (Nat.le_trans zU (by decide))
          have A6 := fun W => of_any (buildS (frK (typV v) (ipS (⟨v, src, dst, proto, hops, cls, id, flags, off, label, opt, S⟩ : Pk)))) W
          have A8 := fun W => of_any (buildS (frK (typV v) (ipS (⟨v, src, dst, proto, hops, cls, id, flags, off, label, opt, T⟩ : Pk)))) W
          unfold OfIs at A6 A8
          rw [FR] at A6
          rw [FU] at A8
          by_cases g1 : asrc = bsrc
          · by_cases g2 : adst = bdst
            · subst g1 g2
              rw [← ports_same f1 f2] at A8
              rcases hv with rfl | rfl
              · exact portsE4q_ss _ _ _ _ _ _ _ _ _ _ _ _ _ _ _ _ _ _ _ _ _ _ _ _ _ _ _ _ _ w _ hca _ hcb S T _ _ _ _ _ _ (by simp) (by simp) A1 A2 A3 A4 A5 A6 A7 A8
              · exact portsE6q_ss _ _ _ _ _ _ _ _ _ _ _ _ _ _ _ _ _ _ _ _ _ _ _ _ _ _ _ _ _ w _ hca _ hcb S T _ _ _ _ _ _ (by simp) (by simp) A1 A2 A3 A4 A5 A6 A7 A8
            · have hy := str_ne (fun e => g2 (ports_key f1 f2 k1 k2 k3 k4 e).2 : src ++ dst ++ S.extract 0 4 ≠ src ++ dst ++ T.extract 0 4)
              rcases hv with rfl | rfl
              · exact portsE4y_ss _ _ _ _ _ _ _ _ _ _ _ _ _ _ _ _ _ _ _ _ _ _ _ _ _ _ _ _ _ w _ hca _ hcb S T _ _ _ _ _ _ _ hy (by simpa using g1) (by simpa using g2) A1 A2 A3 A4 A5 A6 A7 A8
              · exact portsE6y_ss _ _ _ _ _ _ _ _ _ _ _ _ _ _ _ _ _ _ _ _ _ _ _ _ _ _ _ _ _ w _ hca _ hcb S T _ _ _ _ _ _ _ hy (by simpa using g1) (by simpa using g2) A1 A2 A3 A4 A5 A6 A7 A8
          · have hy := str_ne (fun e => g1 (ports_key f1 f2 k1 k2 k3 k4 e).1 : src ++ dst ++ S.extract 0 4 ≠ src ++ dst ++ T.extract 0 4)
            rcases hv with rfl | rfl
            · exact portsE4x_ss _ _ _ _ _ _ _ _ _ _ _ _ _ _ _ _ _ _ _ _ _ _ _ _ _ _ _ _ _ w _ hca _ hcb S T _ _ _ _ _ _ _ hy (by simpa using g1) A1 A2 A3 A4 A5 A6 A7 A8
            · exact portsE6x_ss _ _ _ _ _ _ _ _ _ _ _ _ _ _ _ _ _ _ _ _ _ _ _ _ _ _ _ _ _ w _ hca _ hcb S T _ _ _ _ _ _ _ hy (by simpa using g1) A1 A2 A3 A4 A5 A6 A7 A8
        · exact portsD_ss v _ _ _ _ _ _ _ _ _ _ _ _ _ _ _ _ _ _ _ _ _ _ _ _ _ _ _ _ _ w _ hca _ hcb S T _ _ _ (by simpa using hG) A1 A2 A3 A4
      · exact portsC_ss v _ _ _ _ _ _ _ _ _ _ _ _ _ _ _ _ _ _ _ _ _ _ _ _ _ _ _ _ _ w _ hca _ hcb S T _ _ _ _ (by simpa using hF) A1 A2 A3 A4
    · exact portsB_ss v _ _ _ _ _ _ _ _ _ _ _ _ _ _ _ _ _ _ _ _ _ _ _ _ _ _ _ _ _ w _ hca _ hcb _ _ _ (by simpa using hD) A1 A2
  · exact portsA_ss v _ _ _ _ _ _ _ _ _ _ _ _ _ _ _ _ _ _ _ _ _ _ _ _ _ _ _ _ _ w _ hca _ hcb _ _ _ _ (by simpa using hE) A1 A2
theorem flowPorts_sl (v : Int) (src dst : ByteArray) (proto hops cls id flags off label : Int) (opt body : ByteArray) (asrc adst aseq aack aflags awin aurg : Int) (aopt : ByteArray) (anosum : Bool) (bsrc bdst bseq back bflags bwin burg : Int) (bopt : ByteArray) (bnosum : Bool) (w : World) (ab : ByteArray) (hca : ab.size ≤ 300) (bq bb : ByteArray) (hcb : 300 < bq.size) (ecb : bq.extract 0 300 = bb) (ha : ab.size ≤ 300) (hb : bb.size ≤ 300) (ho : opt.size ≤ 140737488351232) (q1 : 0 ≤ aseq ∧ aseq < 4294967296) (q2 : 0 ≤ aack ∧ aack < 4294967296) (q3 : aopt.size ≤ 140737488351232) (q4 : 0 ≤ bseq ∧ bseq < 4294967296) (q5 : 0 ≤ back ∧ back < 4294967296) (q6 : bopt.size ≤ 140737488351232) :
    Calls Try.prog 8 #[.agg #[.int .i64 v, .string src, .string dst, .int .i64 proto, .int .i64 hops, .int .i64 cls, .int .i64 id, .int .i64 flags, .int .i64 off, .int .i64 label, .string opt, .string body], .agg #[.int .i64 asrc, .int .i64 adst, .int .u32 aseq, .int .u32 aack, .int .i64 aflags, .int .i64 awin, .int .i64 aurg, .string aopt, .string ab, .bool anosum], .agg #[.int .i64 bsrc, .int .i64 bdst, .int .u32 bseq, .int .u32 back, .int .i64 bflags, .int .i64 bwin, .int .i64 burg, .string bopt, .string bq, .bool bnosum]] w fun e w' => e = .returned (.bool true) ∧ Below w.heap.size w w' := by
  have A1 := fun W => seg_any ⟨v, src, dst, proto, hops, cls, id, flags, off, label, opt, ⟨#[]⟩⟩ ⟨asrc, adst, aseq, aack, aflags, awin, aurg, aopt, ab, anosum⟩ W q1 q2 q3 (Nat.le_trans ha (by decide))
  have A2 := fun W => seg_any ⟨v, src, dst, proto, hops, cls, id, flags, off, label, opt, ⟨#[]⟩⟩ ⟨bsrc, bdst, bseq, back, bflags, bwin, burg, bopt, bb, bnosum⟩ W q4 q5 q6 (Nat.le_trans hb (by decide))
  unfold Says at A1 A2
  simp only at A1 A2
  by_cases hE : segE ⟨v, src, dst, proto, hops, cls, id, flags, off, label, opt, ⟨#[]⟩⟩ ⟨asrc, adst, aseq, aack, aflags, awin, aurg, aopt, ab, anosum⟩ = 0
  · rw [hE] at A1
    by_cases hD : segE ⟨v, src, dst, proto, hops, cls, id, flags, off, label, opt, ⟨#[]⟩⟩ ⟨bsrc, bdst, bseq, back, bflags, bwin, burg, bopt, bb, bnosum⟩ = 0
    · rw [hD] at A2
      have ok1 := segE_ok hE
      have ok2 := segE_ok hD
      have z1 := seg_size ok1
      have z2 := seg_size ok2
      have f1 := (seg_first ok1).1
      have f2 := (seg_first ok2).1
      obtain ⟨hc, k1, k2⟩ := canB_of ok1
      obtain ⟨_, k3, k4⟩ := canB_of ok2
      obtain ⟨K, PF⟩ := ports_flow _ hc
      have hv : v = 4 ∨ v = 6 := by
        rcases (canB_iff.1 hc).1 with h | h
        · exact .inl h.1
        · exact .inr h.1
      simp only at z1 z2 f1 f2 k1 k2 k3 k4
      generalize segS ⟨v, src, dst, proto, hops, cls, id, flags, off, label, opt, ⟨#[]⟩⟩ ⟨asrc, adst, aseq, aack, aflags, awin, aurg, aopt, ab, anosum⟩ = S at *
      generalize segS ⟨v, src, dst, proto, hops, cls, id, flags, off, label, opt, ⟨#[]⟩⟩ ⟨bsrc, bdst, bseq, back, bflags, bwin, burg, bopt, bb, bnosum⟩ = T at *
      clear ok1 ok2 hE hD hc
      have A3 := fun W => ipB_any (⟨v, src, dst, proto, hops, cls, id, flags, off, label, opt, S⟩ : Pk) W ho (by show S.size ≤ _; omega)
      have A4 := fun W => ipB_any (⟨v, src, dst, proto, hops, cls, id, flags, off, label, opt, T⟩ : Pk) W ho (by show T.size ≤ _; omega)
      simp only at A3 A4
      by_cases hF : ipF (⟨v, src, dst, proto, hops, cls, id, flags, off, label, opt, S⟩ : Pk) = 0
      · rw [hF] at A3
        by_cases hG : ipF (⟨v, src, dst, proto, hops, cls, id, flags, off, label, opt, T⟩ : Pk) = 0
        · rw [hG] at A4
          have zT : (ipS (⟨v, src, dst, proto, hops, cls, id, flags, off, label, opt, S⟩ : Pk)).size ≤ 1500 := by
            have := ip_size hF
            simp only at this
            omega
          have zU : (ipS (⟨v, src, dst, proto, hops, cls, id, flags, off, label, opt, T⟩ : Pk)).size ≤ 1500 := by
            have := ip_size hG
            simp only at this
            omega
          have FR := of_frame hF zT
          have FU := of_frame hG zU
          obtain ⟨m1, m2⟩ := PF (⟨v, src, dst, proto, hops, cls, id, flags, off, label, opt, S⟩ : Pk) rfl rfl rfl rfl rfl rfl (by show 4 ≤ S.size; omega)
          obtain ⟨m3, m4⟩ := PF (⟨v, src, dst, proto, hops, cls, id, flags, off, label, opt, T⟩ : Pk) rfl rfl rfl rfl rfl rfl (by show 4 ≤ T.size; omega)
          rw [m1, m2] at FR
          rw [m3, m4] at FU
          simp only at FR FU
          have A5 := fun W => framed_any (typV v) (ipS (⟨v, src, dst, proto, hops, cls, id, flags, off, label, opt, S⟩ : Pk)) W (Nat.le_trans zT (by decide))
          have A7 := fun W => framed_any (typV v) (ipS (⟨v, src, dst, proto, hops, cls, id, flags, off, label, opt, T⟩ : Pk)) W (Nat.le_trans zU (by decide))
          have A6 := fun W => of_any (buildS (frK (typV v) (ipS (⟨v, src, dst, proto, hops, cls, id, flags, off, label, opt, S⟩ : Pk)))) W
          have A8 := fun W => of_any (buildS (frK (typV v) (ipS (⟨v, src, dst, proto, hops, cls, id, flags, off, label, opt, T⟩ : Pk)))) W
          unfold OfIs at A6 A8
          rw [FR] at A6
          rw [FU] at A8
          by_cases g1 : asrc = bsrc
          · by_cases g2 : adst = bdst
            · subst g1 g2
              rw [← ports_same f1 f2] at A8
              rcases hv with rfl | rfl
              · exact portsE4q_sl _ _ _ _ _ _ _ _ _ _ _ _ _ _ _ _ _ _ _ _ _ _ _ _ _ _ _ _ _ w _ hca _ _ hcb ecb S T _ _ _ _ _ _ (by simp) (by simp) A1 A2 A3 A4 A5 A6 A7 A8
              · exact portsE6q_sl _ _ _ _ _ _ _ _ _ _ _ _ _ _ _ _ _ _ _ _ _ _ _ _ _ _ _ _ _ w _ hca _ _ hcb ecb S T _ _ _ _ _ _ (by simp) (by simp) A1 A2 A3 A4 A5 A6 A7 A8
            · have hy := str_ne (fun e => g2 (ports_key f1 f2 k1 k2 k3 k4 e).2 : src ++ dst ++ S.extract 0 4 ≠ src ++ dst ++ T.extract 0 4)
              rcases hv with rfl | rfl
              · exact portsE4y_sl _ _ _ _ _ _ _ _ _ _ _ _ _ _ _ _ _ _ _ _ _ _ _ _ _ _ _ _ _ w _ hca _ _ hcb ecb S T _ _ _ _ _ _ _ hy (by simpa using g1) (by simpa using g2) A1 A2 A3 A4 A5 A6 A7 A8
              · exact portsE6y_sl _ _ _ _ _ _ _ _ _ _ _ _ _ _ _ _ _ _ _ _ _ _ _ _ _ _ _ _ _ w _ hca _ _ hcb ecb S T _ _ _ _ _ _ _ hy (by simpa using g1) (by simpa using g2) A1 A2 A3 A4 A5 A6 A7 A8
          · have hy := str_ne (fun e => g1 (ports_key f1 f2 k1 k2 k3 k4 e).1 : src ++ dst ++ S.extract 0 4 ≠ src ++ dst ++ T.extract 0 4)
            rcases hv with rfl | rfl
            · exact portsE4x_sl _ _ _ _ _ _ _ _ _ _ _ _ _ _ _ _ _ _ _ _ _ _ _ _ _ _ _ _ _ w _ hca _ _ hcb ecb S T _ _ _ _ _ _ _ hy (by simpa using g1) A1 A2 A3 A4 A5 A6 A7 A8
            · exact portsE6x_sl _ _ _ _ _ _ _ _ _ _ _ _ _ _ _ _ _ _ _ _ _ _ _ _ _ _ _ _ _ w _ hca _ _ hcb ecb S T _ _ _ _ _ _ _ hy (by simpa using g1) A1 A2 A3 A4 A5 A6 A7 A8
        · exact portsD_sl v _ _ _ _ _ _ _ _ _ _ _ _ _ _ _ _ _ _ _ _ _ _ _ _ _ _ _ _ _ w _ hca _ _ hcb ecb S T _ _ _ (by simpa using hG) A1 A2 A3 A4
      · exact portsC_sl v _ _ _ _ _ _ _ _ _ _ _ _ _ _ _ _ _ _ _ _ _ _ _ _ _ _ _ _ _ w _ hca _ _ hcb ecb S T _ _ _ _ (by simpa using hF) A1 A2 A3 A4
    · exact portsB_sl v _ _ _ _ _ _ _ _ _ _ _ _ _ _ _ _ _ _ _ _ _ _ _ _ _ _ _ _ _ w _ hca _ _ hcb ecb _ _ _ (by simpa using hD) A1 A2
  · exact portsA_sl v _ _ _ _ _ _ _ _ _ _ _ _ _ _ _ _ _ _ _ _ _ _ _ _ _ _ _ _ _ w _ hca _ _ hcb ecb _ _ _ _ (by simpa using hE) A1 A2
theorem flowPorts_ls (v : Int) (src dst : ByteArray) (proto hops cls id flags off label : Int) (opt body : ByteArray) (asrc adst aseq aack aflags awin aurg : Int) (aopt : ByteArray) (anosum : Bool) (bsrc bdst bseq back bflags bwin burg : Int) (bopt : ByteArray) (bnosum : Bool) (w : World) (aq ab : ByteArray) (hca : 300 < aq.size) (eca : aq.extract 0 300 = ab) (bb : ByteArray) (hcb : bb.size ≤ 300) (ha : ab.size ≤ 300) (hb : bb.size ≤ 300) (ho : opt.size ≤ 140737488351232) (q1 : 0 ≤ aseq ∧ aseq < 4294967296) (q2 : 0 ≤ aack ∧ aack < 4294967296) (q3 : aopt.size ≤ 140737488351232) (q4 : 0 ≤ bseq ∧ bseq < 4294967296) (q5 : 0 ≤ back ∧ back < 4294967296) (q6 : bopt.size ≤ 140737488351232) :
    Calls Try.prog 8 #[.agg #[.int .i64 v, .string src, .string dst, .int .i64 proto, .int .i64 hops, .int .i64 cls, .int .i64 id, .int .i64 flags, .int .i64 off, .int .i64 label, .string opt, .string body], .agg #[.int .i64 asrc, .int .i64 adst, .int .u32 aseq, .int .u32 aack, .int .i64 aflags, .int .i64 awin, .int .i64 aurg, .string aopt, .string aq, .bool anosum], .agg #[.int .i64 bsrc, .int .i64 bdst, .int .u32 bseq, .int .u32 back, .int .i64 bflags, .int .i64 bwin, .int .i64 burg, .string bopt, .string bb, .bool bnosum]] w fun e w' => e = .returned (.bool true) ∧ Below w.heap.size w w' := by
  have A1 := fun W => seg_any ⟨v, src, dst, proto, hops, cls, id, flags, off, label, opt, ⟨#[]⟩⟩ ⟨asrc, adst, aseq, aack, aflags, awin, aurg, aopt, ab, anosum⟩ W q1 q2 q3 (Nat.le_trans ha (by decide))
  have A2 := fun W => seg_any ⟨v, src, dst, proto, hops, cls, id, flags, off, label, opt, ⟨#[]⟩⟩ ⟨bsrc, bdst, bseq, back, bflags, bwin, burg, bopt, bb, bnosum⟩ W q4 q5 q6 (Nat.le_trans hb (by decide))
  unfold Says at A1 A2
  simp only at A1 A2
  by_cases hE : segE ⟨v, src, dst, proto, hops, cls, id, flags, off, label, opt, ⟨#[]⟩⟩ ⟨asrc, adst, aseq, aack, aflags, awin, aurg, aopt, ab, anosum⟩ = 0
  · rw [hE] at A1
    by_cases hD : segE ⟨v, src, dst, proto, hops, cls, id, flags, off, label, opt, ⟨#[]⟩⟩ ⟨bsrc, bdst, bseq, back, bflags, bwin, burg, bopt, bb, bnosum⟩ = 0
    · rw [hD] at A2
      have ok1 := segE_ok hE
      have ok2 := segE_ok hD
      have z1 := seg_size ok1
      have z2 := seg_size ok2
      have f1 := (seg_first ok1).1
      have f2 := (seg_first ok2).1
      obtain ⟨hc, k1, k2⟩ := canB_of ok1
      obtain ⟨_, k3, k4⟩ := canB_of ok2
      obtain ⟨K, PF⟩ := ports_flow _ hc
      have hv : v = 4 ∨ v = 6 := by
        rcases (canB_iff.1 hc).1 with h | h
        · exact .inl h.1
        · exact .inr h.1
      simp only at z1 z2 f1 f2 k1 k2 k3 k4
      generalize segS ⟨v, src, dst, proto, hops, cls, id, flags, off, label, opt, ⟨#[]⟩⟩ ⟨asrc, adst, aseq, aack, aflags, awin, aurg, aopt, ab, anosum⟩ = S at *
      generalize segS ⟨v, src, dst, proto, hops, cls, id, flags, off, label, opt, ⟨#[]⟩⟩ ⟨bsrc, bdst, bseq, back, bflags, bwin, burg, bopt, bb, bnosum⟩ = T at *
      clear ok1 ok2 hE hD hc
      have A3 := fun W => ipB_any (⟨v, src, dst, proto, hops, cls, id, flags, off, label, opt, S⟩ : Pk) W ho (by show S.size ≤ _; omega)
      have A4 := fun W => ipB_any (⟨v, src, dst, proto, hops, cls, id, flags, off, label, opt, T⟩ : Pk) W ho (by show T.size ≤ _; omega)
      simp only at A3 A4
      by_cases hF : ipF (⟨v, src, dst, proto, hops, cls, id, flags, off, label, opt, S⟩ : Pk) = 0
      · rw [hF] at A3
        by_cases hG : ipF (⟨v, src, dst, proto, hops, cls, id, flags, off, label, opt, T⟩ : Pk) = 0
        · rw [hG] at A4
          have zT : (ipS (⟨v, src, dst, proto, hops, cls, id, flags, off, label, opt, S⟩ : Pk)).size ≤ 1500 := by
            have := ip_size hF
            simp only at this
            omega
          have zU : (ipS (⟨v, src, dst, proto, hops, cls, id, flags, off, label, opt, T⟩ : Pk)).size ≤ 1500 := by
            have := ip_size hG
            simp only at this
            omega
          have FR := of_frame hF zT
          have FU := of_frame hG zU
          obtain ⟨m1, m2⟩ := PF (⟨v, src, dst, proto, hops, cls, id, flags, off, label, opt, S⟩ : Pk) rfl rfl rfl rfl rfl rfl (by show 4 ≤ S.size; omega)
          obtain ⟨m3, m4⟩ := PF (⟨v, src, dst, proto, hops, cls, id, flags, off, label, opt, T⟩ : Pk) rfl rfl rfl rfl rfl rfl (by show 4 ≤ T.size; omega)
          rw [m1, m2] at FR
          rw [m3, m4] at FU
          simp only at FR FU
          have A5 := fun W => framed_any (typV v) (ipS (⟨v, src, dst, proto, hops, cls, id, flags, off, label, opt, S⟩ : Pk)) W (Nat.le_trans zT (by decide))
          have A7 := fun W => framed_any (typV v) (ipS (⟨v, src, dst, proto, hops, cls, id, flags, off, label, opt, T⟩ : Pk)) W (Nat.le_trans zU (by decide))
          have A6 := fun W => of_any (buildS (frK (typV v) (ipS (⟨v, src, dst, proto, hops, cls, id, flags, off, label, opt, S⟩ : Pk)))) W
          have A8 := fun W => of_any (buildS (frK (typV v) (ipS (⟨v, src, dst, proto, hops, cls, id, flags, off, label, opt, T⟩ : Pk)))) W
          unfold OfIs at A6 A8
          rw [FR] at A6
          rw [FU] at A8
          by_cases g1 : asrc = bsrc
          · by_cases g2 : adst = bdst
            · subst g1 g2
              rw [← ports_same f1 f2] at A8
              rcases hv with rfl | rfl
              · exact portsE4q_ls _ _ _ _ _ _ _ _ _ _ _ _ _ _ _ _ _ _ _ _ _ _ _ _ _ _ _ _ _ w _ _ hca eca _ hcb S T _ _ _ _ _ _ (by simp) (by simp) A1 A2 A3 A4 A5 A6 A7 A8
              · exact portsE6q_ls _ _ _ _ _ _ _ _ _ _ _ _ _ _ _ _ _ _ _ _ _ _ _ _ _ _ _ _ _ w _ _ hca eca _ hcb S T _ _ _ _ _ _ (by simp) (by simp) A1 A2 A3 A4 A5 A6 A7 A8
            · have hy := str_ne (fun e => g2 (ports_key f1 f2 k1 k2 k3 k4 e).2 : src ++ dst ++ S.extract 0 4 ≠ src ++ dst ++ T.extract 0 4)
              rcases hv with rfl | rfl
              · exact portsE4y_ls _ _ _ _ _ _ _ _ _ _ _ _ _ _ _ _ _ _ _ _ _ _ _ _ _ _ _ _ _ w _ _ hca eca _ hcb S T _ _ _ _ _ _ _ hy (by simpa using g1) (by simpa using g2) A1 A2 A3 A4 A5 A6 A7 A8
              · exact portsE6y_ls _ _ _ _ _ _ _ _ _ _ _ _ _ _ _ _ _ _ _ _ _ _ _ _ _ _ _ _ _ w _ _ hca eca _ hcb S T _ _ _ _ _ _ _ hy (by simpa using g1) (by simpa using g2) A1 A2 A3 A4 A5 A6 A7 A8
          · have hy := str_ne (fun e => g1 (ports_key f1 f2 k1 k2 k3 k4 e).1 : src ++ dst ++ S.extract 0 4 ≠ src ++ dst ++ T.extract 0 4)
            rcases hv with rfl | rfl
            · exact portsE4x_ls _ _ _ _ _ _ _ _ _ _ _ _ _ _ _ _ _ _ _ _ _ _ _ _ _ _ _ _ _ w _ _ hca eca _ hcb S T _ _ _ _ _ _ _ hy (by simpa using g1) A1 A2 A3 A4 A5 A6 A7 A8
            · exact portsE6x_ls _ _ _ _ _ _ _ _ _ _ _ _ _ _ _ _ _ _ _ _ _ _ _ _ _ _ _ _ _ w _ _ hca eca _ hcb S T _ _ _ _ _ _ _ hy (by simpa using g1) A1 A2 A3 A4 A5 A6 A7 A8
        · exact portsD_ls v _ _ _ _ _ _ _ _ _ _ _ _ _ _ _ _ _ _ _ _ _ _ _ _ _ _ _ _ _ w _ _ hca eca _ hcb S T _ _ _ (by simpa using hG) A1 A2 A3 A4
      · exact portsC_ls v _ _ _ _ _ _ _ _ _ _ _ _ _ _ _ _ _ _ _ _ _ _ _ _ _ _ _ _ _ w _ _ hca eca _ hcb S T _ _ _ _ (by simpa using hF) A1 A2 A3 A4
    · exact portsB_ls v _ _ _ _ _ _ _ _ _ _ _ _ _ _ _ _ _ _ _ _ _ _ _ _ _ _ _ _ _ w _ _ hca eca _ hcb _ _ _ (by simpa using hD) A1 A2
  · exact portsA_ls v _ _ _ _ _ _ _ _ _ _ _ _ _ _ _ _ _ _ _ _ _ _ _ _ _ _ _ _ _ w _ _ hca eca _ hcb _ _ _ _ (by simpa using hE) A1 A2
theorem flowPorts_ll (v : Int) (src dst : ByteArray) (proto hops cls id flags off label : Int) (opt body : ByteArray) (asrc adst aseq aack aflags awin aurg : Int) (aopt : ByteArray) (anosum : Bool) (bsrc bdst bseq back bflags bwin burg : Int) (bopt : ByteArray) (bnosum : Bool) (w : World) (aq ab : ByteArray) (hca : 300 < aq.size) (eca : aq.extract 0 300 = ab) (bq bb : ByteArray) (hcb : 300 < bq.size) (ecb : bq.extract 0 300 = bb) (ha : ab.size ≤ 300) (hb : bb.size ≤ 300) (ho : opt.size ≤ 140737488351232) (q1 : 0 ≤ aseq ∧ aseq < 4294967296) (q2 : 0 ≤ aack ∧ aack < 4294967296) (q3 : aopt.size ≤ 140737488351232) (q4 : 0 ≤ bseq ∧ bseq < 4294967296) (q5 : 0 ≤ back ∧ back < 4294967296) (q6 : bopt.size ≤ 140737488351232) :
    Calls Try.prog 8 #[.agg #[.int .i64 v, .string src, .string dst, .int .i64 proto, .int .i64 hops, .int .i64 cls, .int .i64 id, .int .i64 flags, .int .i64 off, .int .i64 label, .string opt, .string body], .agg #[.int .i64 asrc, .int .i64 adst, .int .u32 aseq, .int .u32 aack, .int .i64 aflags, .int .i64 awin, .int .i64 aurg, .string aopt, .string aq, .bool anosum], .agg #[.int .i64 bsrc, .int .i64 bdst, .int .u32 bseq, .int .u32 back, .int .i64 bflags, .int .i64 bwin, .int .i64 burg, .string bopt, .string bq, .bool bnosum]] w fun e w' => e = .returned (.bool true) ∧ Below w.heap.size w w' := by
  have A1 := fun W => seg_any ⟨v, src, dst, proto, hops, cls, id, flags, off, label, opt, ⟨#[]⟩⟩ ⟨asrc, adst, aseq, aack, aflags, awin, aurg, aopt, ab, anosum⟩ W q1 q2 q3 (Nat.le_trans ha (by decide))
  have A2 := fun W => seg_any ⟨v, src, dst, proto, hops, cls, id, flags, off, label, opt, ⟨#[]⟩⟩ ⟨bsrc, bdst, bseq, back, bflags, bwin, burg, bopt, bb, bnosum⟩ W q4 q5 q6 (Nat.le_trans hb (by decide))
  unfold Says at A1 A2
  simp only at A1 A2
  by_cases hE : segE ⟨v, src, dst, proto, hops, cls, id, flags, off, label, opt, ⟨#[]⟩⟩ ⟨asrc, adst, aseq, aack, aflags, awin, aurg, aopt, ab, anosum⟩ = 0
  · rw [hE] at A1
    by_cases hD : segE ⟨v, src, dst, proto, hops, cls, id, flags, off, label, opt, ⟨#[]⟩⟩ ⟨bsrc, bdst, bseq, back, bflags, bwin, burg, bopt, bb, bnosum⟩ = 0
    · rw [hD] at A2
      have ok1 := segE_ok hE
      have ok2 := segE_ok hD
      have z1 := seg_size ok1
      have z2 := seg_size ok2
      have f1 := (seg_first ok1).1
      have f2 := (seg_first ok2).1
      obtain ⟨hc, k1, k2⟩ := canB_of ok1
      obtain ⟨_, k3, k4⟩ := canB_of ok2
      obtain ⟨K, PF⟩ := ports_flow _ hc
      have hv : v = 4 ∨ v = 6 := by
        rcases (canB_iff.1 hc).1 with h | h
        · exact .inl h.1
        · exact .inr h.1
      simp only at z1 z2 f1 f2 k1 k2 k3 k4
      generalize segS ⟨v, src, dst, proto, hops, cls, id, flags, off, label, opt, ⟨#[]⟩⟩ ⟨asrc, adst, aseq, aack, aflags, awin, aurg, aopt, ab, anosum⟩ = S at *
      generalize segS ⟨v, src, dst, proto, hops, cls, id, flags, off, label, opt, ⟨#[]⟩⟩ ⟨bsrc, bdst, bseq, back, bflags, bwin, burg, bopt, bb, bnosum⟩ = T at *
      clear ok1 ok2 hE hD hc
      have A3 := fun W => ipB_any (⟨v, src, dst, proto, hops, cls, id, flags, off, label, opt, S⟩ : Pk) W ho (by show S.size ≤ _; omega)
      have A4 := fun W => ipB_any (⟨v, src, dst, proto, hops, cls, id, flags, off, label, opt, T⟩ : Pk) W ho (by show T.size ≤ _; omega)
      simp only at A3 A4
      by_cases hF : ipF (⟨v, src, dst, proto, hops, cls, id, flags, off, label, opt, S⟩ : Pk) = 0
      · rw [hF] at A3
        by_cases hG : ipF (⟨v, src, dst, proto, hops, cls, id, flags, off, label, opt, T⟩ : Pk) = 0
        · rw [hG] at A4
          have zT : (ipS (⟨v, src, dst, proto, hops, cls, id, flags, off, label, opt, S⟩ : Pk)).size ≤ 1500 := by
            have := ip_size hF
            simp only at this
            omega
          have zU : (ipS (⟨v, src, dst, proto, hops, cls, id, flags, off, label, opt, T⟩ : Pk)).size ≤ 1500 := by
            have := ip_size hG
            simp only at this
            omega
          have FR := of_frame hF zT
          have FU := of_frame hG zU
          obtain ⟨m1, m2⟩ := PF (⟨v, src, dst, proto, hops, cls, id, flags, off, label, opt, S⟩ : Pk) rfl rfl rfl rfl rfl rfl (by show 4 ≤ S.size; omega)
          obtain ⟨m3, m4⟩ := PF (⟨v, src, dst, proto, hops, cls, id, flags, off, label, opt, T⟩ : Pk) rfl rfl rfl rfl rfl rfl (by show 4 ≤ T.size; omega)
          rw [m1, m2] at FR
          rw [m3, m4] at FU
          simp only at FR FU
          have A5 := fun W => framed_any (typV v) (ipS (⟨v, src, dst, proto, hops, cls, id, flags, off, label, opt, S⟩ : Pk)) W (Nat.le_trans zT (by decide))
          have A7 := fun W => framed_any (typV v) (ipS (⟨v, src, dst, proto, hops, cls, id, flags, off, label, opt, T⟩ : Pk)) W (Nat.le_trans zU (by decide))
          have A6 := fun W => of_any (buildS (frK (typV v) (ipS (⟨v, src, dst, proto, hops, cls, id, flags, off, label, opt, S⟩ : Pk)))) W
          have A8 := fun W => of_any (buildS (frK (typV v) (ipS (⟨v, src, dst, proto, hops, cls, id, flags, off, label, opt, T⟩ : Pk)))) W
          unfold OfIs at A6 A8
          rw [FR] at A6
          rw [FU] at A8
          by_cases g1 : asrc = bsrc
          · by_cases g2 : adst = bdst
            · subst g1 g2
              rw [← ports_same f1 f2] at A8
              rcases hv with rfl | rfl
              · exact portsE4q_ll _ _ _ _ _ _ _ _ _ _ _ _ _ _ _ _ _ _ _ _ _ _ _ _ _ _ _ _ _ w _ _ hca eca _ _ hcb ecb S T _ _ _ _ _ _ (by simp) (by simp) A1 A2 A3 A4 A5 A6 A7 A8
              · exact portsE6q_ll _ _ _ _ _ _ _ _ _ _ _ _ _ _ _ _ _ _ _ _ _ _ _ _ _ _ _ _ _ w _ _ hca eca _ _ hcb ecb S T _ _ _ _ _ _ (by simp) (by simp) A1 A2 A3 A4 A5 A6 A7 A8
            · have hy := str_ne (fun e => g2 (ports_key f1 f2 k1 k2 k3 k4 e).2 : src ++ dst ++ S.extract 0 4 ≠ src ++ dst ++ T.extract 0 4)
              rcases hv with rfl | rfl
              · exact portsE4y_ll _ _ _ _ _ _ _ _ _ _ _ _ _ _ _ _ _ _ _ _ _ _ _ _ _ _ _ _ _ w _ _ hca eca _ _ hcb ecb S T _ _ _ _ _ _ _ hy (by simpa using g1) (by simpa using g2) A1 A2 A3 A4 A5 A6 A7 A8
              · exact portsE6y_ll _ _ _ _ _ _ _ _ _ _ _ _ _ _ _ _ _ _ _ _ _ _ _ _ _ _ _ _ _ w _ _ hca eca _ _ hcb ecb S T _ _ _ _ _ _ _ hy (by simpa using g1) (by simpa using g2) A1 A2 A3 A4 A5 A6 A7 A8
          · have hy := str_ne (fun e => g1 (ports_key f1 f2 k1 k2 k3 k4 e).1 : src ++ dst ++ S.extract 0 4 ≠ src ++ dst ++ T.extract 0 4)
            rcases hv with rfl | rfl
            · exact portsE4x_ll _ _ _ _ _ _ _ _ _ _ _ _ _ _ _ _ _ _ _ _ _ _ _ _ _ _ _ _ _ w _ _ hca eca _ _ hcb ecb S T _ _ _ _ _ _ _ hy (by simpa using g1) A1 A2 A3 A4 A5 A6 A7 A8
            · exact portsE6x_ll _ _ _ _ _ _ _ _ _ _ _ _ _ _ _ _ _ _ _ _ _ _ _ _ _ _ _ _ _ w _ _ hca eca _ _ hcb ecb S T _ _ _ _ _ _ _ hy (by simpa using g1) A1 A2 A3 A4 A5 A6 A7 A8
        · exact portsD_ll v _ _ _ _ _ _ _ _ _ _ _ _ _ _ _ _ _ _ _ _ _ _ _ _ _ _ _ _ _ w _ _ hca eca _ _ hcb ecb S T _ _ _ (by simpa using hG) A1 A2 A3 A4
      · exact portsC_ll v _ _ _ _ _ _ _ _ _ _ _ _ _ _ _ _ _ _ _ _ _ _ _ _ _ _ _ _ _ w _ _ hca eca _ _ hcb ecb S T _ _ _ _ (by simpa using hF) A1 A2 A3 A4
    · exact portsB_ll v _ _ _ _ _ _ _ _ _ _ _ _ _ _ _ _ _ _ _ _ _ _ _ _ _ _ _ _ _ w _ _ hca eca _ _ hcb ecb _ _ _ (by simpa using hD) A1 A2
  · exact portsA_ll v _ _ _ _ _ _ _ _ _ _ _ _ _ _ _ _ _ _ _ _ _ _ _ _ _ _ _ _ _ w _ _ hca eca _ _ hcb ecb _ _ _ _ (by simpa using hE) A1 A2
theorem flowPorts_all (p : Pk) (a b : Sg) (w : World) (ho : p.opt.size ≤ 140737488351232) (q1 : 0 ≤ a.seq ∧ a.seq ≤ 4294967295) (q2 : 0 ≤ a.ack ∧ a.ack ≤ 4294967295) (q3 : a.opt.size ≤ 140737488351232) (q4 : 0 ≤ b.seq ∧ b.seq ≤ 4294967295) (q5 : 0 ≤ b.ack ∧ b.ack ≤ 4294967295) (q6 : b.opt.size ≤ 140737488351232) :
    Calls Try.prog 8 #[.agg #[.int .i64 p.v, .string p.src, .string p.dst, .int .i64 p.proto, .int .i64 p.hops, .int .i64 p.cls, .int .i64 p.id, .int .i64 p.flags, .int .i64 p.off, .int .i64 p.label, .string p.opt, .string p.body], .agg #[.int .i64 a.src, .int .i64 a.dst, .int .u32 a.seq, .int .u32 a.ack, .int .i64 a.flags, .int .i64 a.win, .int .i64 a.urgent, .string a.opt, .string a.body, .bool a.nosum], .agg #[.int .i64 b.src, .int .i64 b.dst, .int .u32 b.seq, .int .u32 b.ack, .int .i64 b.flags, .int .i64 b.win, .int .i64 b.urgent, .string b.opt, .string b.body, .bool b.nosum]] w fun e w' => e = .returned (.bool true) ∧ Below w.heap.size w w' := by
  have r1 : 0 ≤ a.seq ∧ a.seq < 4294967296 := by omega
  have r2 : 0 ≤ a.ack ∧ a.ack < 4294967296 := by omega
  have r4 : 0 ≤ b.seq ∧ b.seq < 4294967296 := by omega
  have r5 : 0 ≤ b.ack ∧ b.ack < 4294967296 := by omega
  have za : (a.body.extract 0 300).size ≤ 300 := by rw [ByteArray.size_extract]; omega
  have zb : (b.body.extract 0 300).size ≤ 300 := by rw [ByteArray.size_extract]; omega
  by_cases h : a.body.size ≤ 300
  · by_cases k : b.body.size ≤ 300
    · exact flowPorts_ss p.v p.src p.dst p.proto p.hops p.cls p.id p.flags p.off p.label p.opt p.body a.src a.dst a.seq a.ack a.flags a.win a.urgent a.opt a.nosum b.src b.dst b.seq b.ack b.flags b.win b.urgent b.opt b.nosum w a.body h b.body k h k ho r1 r2 q3 r4 r5 q6
    · exact flowPorts_sl p.v p.src p.dst p.proto p.hops p.cls p.id p.flags p.off p.label p.opt p.body a.src a.dst a.seq a.ack a.flags a.win a.urgent a.opt a.nosum b.src b.dst b.seq b.ack b.flags b.win b.urgent b.opt b.nosum w a.body h b.body _ (by omega) rfl h zb ho r1 r2 q3 r4 r5 q6
  · by_cases k : b.body.size ≤ 300
    · exact flowPorts_ls p.v p.src p.dst p.proto p.hops p.cls p.id p.flags p.off p.label p.opt p.body a.src a.dst a.seq a.ack a.flags a.win a.urgent a.opt a.nosum b.src b.dst b.seq b.ack b.flags b.win b.urgent b.opt b.nosum w a.body _ (by omega) rfl b.body k za k ho r1 r2 q3 r4 r5 q6
    · exact flowPorts_ll p.v p.src p.dst p.proto p.hops p.cls p.id p.flags p.off p.label p.opt p.body a.src a.dst a.seq a.ack a.flags a.win a.urgent a.opt a.nosum b.src b.dst b.seq b.ack b.flags b.win b.urgent b.opt b.nosum w a.body _ (by omega) rfl b.body _ (by omega) rfl za zb ho r1 r2 q3 r4 r5 q6

set_option maxRecDepth 100000 in
theorem flowPorts_lifted (os : Os) (started : os.Started) (H : Type) (enc : TypeId × Value → H) :
    ReturnsInHanded {} Try.checked os 8 .any (Rows.flowPortsSpec.pre6 enc Try.prog Try.f8 Rows.flowPortsRow.domain false) (Rows.flowPortsSpec.post enc Try.prog Try.f8 false true false false) := by
  have e : Try.f8.params.toList = [35, 37, 37] := by rw [Try.params8]
  refine law_of_walk (C := Try.checked) (tb := 4) H enc Try.own started (by kernel_rfl) Try.func8 Try.laidOut rfl rfl Try.underlying4 ?_ ?_
    (ChangeSpec.witness6 (enc := enc) (C := Try.checked) false ⟨#[], #[.agg #[.int .i64 0, .string ByteArray.empty, .string ByteArray.empty, .int .i64 0, .int .i64 0, .int .i64 0, .int .i64 0, .int .i64 0, .int .i64 0, .int .i64 0, .string ByteArray.empty, .string ByteArray.empty], .agg #[.int .i64 0, .int .i64 0, .int .u32 0, .int .u32 0, .int .i64 0, .int .i64 0, .int .i64 0, .string ByteArray.empty, .string ByteArray.empty, .bool false], .agg #[.int .i64 0, .int .i64 0, .int .u32 0, .int .u32 0, .int .i64 0, .int .i64 0, .int .i64 0, .string ByteArray.empty, .string ByteArray.empty, .bool false]], []⟩ 8 (by kernel_rfl) (by kernel_rfl) (by kernel_rfl) (by kernel_rfl)) ?_
  · rw [e]
    intro t ht
    simp only [List.mem_cons, List.not_mem_nil, or_false] at ht
    rcases ht with rfl | rfl | rfl <;> exact ⟨by kernel_rfl, of_decide_eq_true (by kernel_rfl)⟩
  · intro ds hds
    rw [e] at hds
    match ds, hds with
    | [d0, d1, d2], _ => rfl
  · intro W base args ds p hval0 hA0 hsz0
    have hval : ∀ (j : Nat) t v, Try.f8.params[j]? = some t → args[j]? = some v → Value.okWide Try.prog W .any base t v := hval0
    have hA : DataW.TrodAll enc Try.prog W 0 (fun _ => true) true Try.f8.params.toList args.toList ds p := hA0
    have hsz : (DataW.weightsEach Try.prog Try.f8.params.toList ds).all (· ≤ reachBytes) = true := hsz0
    rw [Try.params8] at hA hval hsz
    obtain ⟨v0, v1, v2, d0, d1, d2, p0, p1, p2, rfl, rfl, rfl, h0, h1, h2⟩ := trodAll_three hA
    obtain ⟨x0, rfl, rfl, b0⟩ := open_ip (hval 0 35 v0 rfl rfl) h0
    obtain ⟨x1, rfl, rfl, b1⟩ := open_seg (hval 1 37 v1 rfl rfl) h1
    obtain ⟨x2, rfl, rfl, b2⟩ := open_seg (hval 2 37 v2 rfl rfl) h2
    have s0 := ip_opt_sized (j := 0) (f := x0) hsz rfl rfl
    have s1 := seg_opt_sized (j := 1) (f := x1) hsz rfl rfl
    have r1 := seg_body_sized (j := 1) (f := x1) hsz rfl rfl
    have s2 := seg_opt_sized (j := 2) (f := x2) hsz rfl rfl
    have r2 := seg_body_sized (j := 2) (f := x2) hsz rfl rfl
    exact flowPorts_all x0 x1 x2 W s0 b1.1 b1.2.1 s1 b2.1 b2.2.1 s2

theorem flowPorts_holds : Rows.FlowPortsSaid :=
  OpenClaim.holds_of_wide 8 Try.f8 rfl rfl rfl rfl rfl rfl rfl ⟨rfl, rfl, rfl, rfl, rfl⟩ rfl rfl rfl rfl rfl (by kernel_rfl) Try.func8 (by kernel_rfl)
    (of_decide_eq_true (by kernel_rfl)) (by unfold Func.isWrapper; first | (rw [if_pos (by decide +kernel)]; kernel_rfl) | (rw [if_neg (by decide +kernel)]; exact ⟨rfl, rfl⟩))
    (fun os started H enc _ => flowPorts_lifted os started H enc)
end Go.Proofs.Ytpelohmondhiiaa
