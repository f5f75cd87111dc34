/-
  DrvqBoth holds: a driver and a device over one memory: each chain that is posted is taken, in order, once, just as its parts were; what is given back, in whatever order, is reaped, with what was written; no queue is ever broken, and when all came back all is free; no condition.
-/
import Derived.Test.YtbpgblmhacpjlaaBh
import Derived.Deep.RegionHeld3
import Derived.Deep.CutRange
import Derived.Deep.CutBlock
import Derived.Test.YtbpgblmhacpjlaaLaw
namespace Go.Proofs.Ytbpgblmhacpjlaa
open Go.RowKit

set_option maxRecDepth 100000 in
set_option maxHeartbeats 102400000 in
theorem both_all (size : Int) (A : Option Addr) (m c : Nat) (w : World) (hA : TurnsAt A m w) :
    Calls Try.prog 3 #[.int .i64 size, .slice A m c] w fun e w' => e = .returned (.bool true) ∧ Below w.heap.size w w' := by
  obtain ⟨X, hX0, eX⟩ := low_and size 5 31 (by omega) (by decide)
  have hX : X < 32 := hX0
  obtain ⟨n, hn⟩ : ∃ n : Nat, 1 + X = n := ⟨_, rfl⟩
  have en : IntKind.i64.wrap (1 + (X : Int)) = (n : Int) := by rw [IntWalk.i64_in _ (by omega)]; omega
  have hn1 : 1 ≤ n := by omega
  have hn2 : n ≤ 32 := by omega
  obtain ⟨i0, hi, hz0, hz1, hz2⟩ := info_parts Try.infoChain
  have HI := Lib.hid hi
  have HZ0 := Lib.hid hz0
  have HZ1 := Lib.hid hz1
  have HZ2 := Lib.hid hz2
  obtain ⟨j0, ji, jz0, jz1, jz2⟩ := info_parts Try.info3
  have JI := Lib.hid ji
  have JZ0 := Lib.hid jz0
  have JZ1 := Lib.hid jz1
  have JZ2 := Lib.hid jz2
  have HM : ∀ W, Calls Try.prog 7 #[.int .i64 1024] W (MadeM 1024 W) := fun W => memA_new 1024 W (by omega) (by omega)
  have HM := Lib.hid HM
  have HF := Lib.hid fixed_any
  have S0 := Lib.hid ((St.begin w).push 24 #[.int .i64 0, .int .i64 (n : Int), .int .i64 512, .int .i64 516])
  have HA := Lib.hid hA
  have Hn1 := Lib.hid hn1
  have Hn2 := Lib.hid hn2
  clear hA hi hz0 hz1 hz2 ji jz0 jz1 jz2 hX0 hn hX
  go_enter Try.func3, Try.ntmps3
  go_wp2_with fail
  refine (HM.out _).mono ?_
  rintro e w1 ⟨g, F1, rfl, hM, hF1, hb1⟩
  have hx0 : (List.replicate 1024 (0 : UInt8)).length = 1024 := List.length_replicate
  have hk0 := lay_both Hn1.out Hn2.out hx0
  have hz := fun s hs => new_zero (xs := List.replicate 1024 (0 : UInt8)) (ring := 0) (size := n) (drv := 512) (dev := 516) (by rw [hx0]; have := Hn2.out; omega) (by rw [hx0]; omega) (by rw [hx0]; omega) (by have := Hn2.out; omega) (by have := Hn2.out; omega) s hs
  have hqo := newV_ok hk0
  have hxl : (newX (List.replicate 1024 (0 : UInt8)) 0 n 512 516).length = 1024 := by rw [newX_length (by rw [hx0]; have := Hn2.out; omega) (by rw [hx0]; omega) (by rw [hx0]; omega)]; exact hx0
  rw [hx0] at hqo
  obtain ⟨xs0, hX0⟩ : ∃ X, newX (List.replicate 1024 (0 : UInt8)) 0 n 512 516 = X := ⟨_, rfl⟩
  obtain ⟨q0, hQ0⟩ : ∃ q, newV 0 (n : Int) 512 516 = q := ⟨_, rfl⟩
  obtain ⟨z0, hZ00⟩ : ∃ z : Qs, (⟨0, n, 512, 516, 0, true, 0, true, 0, true, 0, 0, false⟩ : Qs) = z := ⟨_, rfl⟩
  rw [hX0] at hz hxl
  rw [hQ0] at hqo
  have hB0 : Both n xs0 q0 z0 [] [] [] 0 := both_new Hn1.out Hn2.out hxl (fun s hs => by have := hz s hs; rwa [Nat.zero_add] at this) hQ0.symm hqo hZ00.symm
  have S1 : St (fun _ => False) w (stars [memA g (List.replicate 1024 0), box w.heap.size 24 #[.int .i64 0, .int .i64 (n : Int), .int .i64 512, .int .i64 516]]) w1 := S0.out.add hb1 hM hF1
  have bk := S1.blk 1 (by simp) rfl
  have d0 := bk.cell 0
  have d1 := bk.cell 1
  have d2 := bk.cell 2
  have d3 := bk.cell 3
  simp only [List.getElem?_toArray, List.getElem?_cons_zero, List.getElem?_cons_succ] at d0 d1 d2 d3
  have hlt1 := bk.lt
  obtain ⟨F2, hA2, hb2⟩ := S1.at 0 (by simp)
  have HD := dnew_good hA2 0 n 512 516 hk0
  have e512 : ((512 : Nat) : Int) = 512 := rfl
  have HD : Calls Try.prog 8 #[.pointer (some ⟨g, 0, none⟩), .agg #[.int .i64 0, .int .i64 (n : Int), .int .i64 512, .int .i64 516]] w1 fun e w' => ∃ k, e = .returned (.tuple #[.pointer (some ⟨k, 0, none⟩), .int .i64 0]) ∧ St F2 w1 (stars [memA g (newX (List.replicate 1024 0) 0 n 512 516), drvA k g (newV 0 (n : Int) 512 516)]) w' := HD
  rw [hX0, hQ0] at HD
  have HD := Lib.hid HD
  have HB2 := Lib.hid hb2
  have HB0 := Lib.hid hB0
  have HXL := Lib.hid hxl
  have HZZ := Lib.hid hZ00
  have hsq : q0.since = 0 := by rw [← hQ0]; rfl
  have hsz : z0.since = 0 := by rw [← hZ00]
  have HSQ := Lib.hid hsq
  have HSZ := Lib.hid hsz
  clear hM hF1 hb1 hk0 hz hqo hX0 hQ0 hB0 hA2 hb2 S1 bk hxl HM S0 hsq hsz hx0 e512 hZ00
  go_wp2_with fail
  refine HD.out.mono ?_
  rintro e w2 ⟨gq, rfl, hs2⟩
  have S2 : St (fun _ => False) w (stars [memA g xs0, drvA gq g q0, box w.heap.size 24 #[.int .i64 0, .int .i64 (n : Int), .int .i64 512, .int .i64 516]]) w2 := (HB2.out _ _ hs2).mono fun _ e => stars_app [memA g xs0, drvA gq g q0] [box w.heap.size 24 #[.int .i64 0, .int .i64 (n : Int), .int .i64 512, .int .i64 516]] e
  have bk := S2.blk 2 (by simp) rfl
  have d0 := bk.cell 0
  have d1 := bk.cell 1
  have d2 := bk.cell 2
  have d3 := bk.cell 3
  simp only [List.getElem?_toArray, List.getElem?_cons_zero, List.getElem?_cons_succ] at d0 d1 d2 d3
  have hlt2 := bk.lt
  obtain ⟨F3, hA3⟩ := S2.get 0 (by simp)
  have HV := dvnew_v hA3 (lay_both Hn1.out Hn2.out HXL.out)
  rw [HZZ.out] at HV
  have HV := Lib.hid HV
  have S2 := Lib.hid S2
  clear hs2 HD HB2 hA3 bk hlt1
  go_wp2_with fail
  refine HV.out.mono ?_
  rintro e w3 ⟨gd, rfl, hD3, hgd, hb3⟩
  have S3 : St (fun _ => False) w (stars [devA gd g z0, memA g xs0, drvA gq g q0, box w.heap.size 24 #[.int .i64 0, .int .i64 (n : Int), .int .i64 512, .int .i64 516]]) w3 := S2.out.add hb3 hD3 (fun k e => by rw [e]; exact hgd)
  have S3 : St (fun _ => False) w (stars [memA g xs0, drvA gq g q0, devA gd g z0]) w3 := S3.weak fun F e => by
    obtain ⟨G1, G2, hG, hd, a, b⟩ := e
    have b2 := stars_cat [memA g xs0, drvA gq g q0] [box w.heap.size 24 #[.int .i64 0, .int .i64 (n : Int), .int .i64 512, .int .i64 516]] b
    obtain ⟨G3, G4, hG2, hd2, a2, -⟩ := b2
    refine ⟨fun k => G3 k ∨ G1 k, stars_app [memA g xs0, drvA gq g q0] [devA gd g z0] ⟨G3, G1, fun _ => Iff.rfl, fun k e1 e2 => hd k e2 ((hG2 k).2 (.inl e1)), a2, G1, fun _ => False, fun k => by simp, fun k _ e => e, a, fun _ e => e⟩, fun k hk => ?_⟩
    rcases hk with e | e
    · exact (hG k).2 (.inr ((hG2 k).2 (.inl e)))
    · exact (hG k).2 (.inl e)
  have S3 := Lib.hid S3
  clear HV hD3 hb3 S2 d0 d1 d2 d3 hlt2
  go_wp2_with fail
  go_loopw [11, 12, 13, 14, 15] (fun pv tv dv ev iv wr => ∃ (k : Nat) (P T : List Ce) (G : List Gv) (A1 A2 A3 A4 : Option Addr) (c1 c2 c3 c4 : Nat), k ≤ 100 ∧ iv = .int .i64 (k : Int) ∧ pv = .slice A1 P.length c1 ∧ tv = .slice A2 T.length c2 ∧ dv = .slice A3 G.length c3 ∧ ev = .slice A4 G.length c4 ∧ BtS n w g gq gd k k P T G A1 A2 A3 A4 c1 c2 c3 c4 [] wr) (fun _ _ _ _ iv _ => 100 - (RowKit.intOf iv).toNat)
  case atStart =>
    refine ⟨0, [], [], [], _, _, _, _, _, _, _, _, Nat.zero_le _, rfl, rfl, rfl, rfl, rfl, xs0, q0, z0, 0, HB0.out, by rw [HSQ.out]; exact Nat.zero_le _, by rw [HSZ.out]; exact Nat.zero_le _, ?_⟩
    refine St.start5 ?_ _ _ _ _
    exact (((S3.out.alloc _).alloc _).alloc _).alloc _
  case round =>
    obtain ⟨k, P, T, G, A1, A2, A3, A4, c1, c2, c3, c4, hk, rfl, rfl, rfl, rfl, rfl, hS⟩ := hrel
    clear S3 HB0
    by_cases hlt : k < m ∧ k < 100
    · obtain ⟨l1, l2⟩ := hlt
      obtain ⟨b1, off, rfl, hb1', hcs⟩ := HA.out (by omega)
      obtain ⟨t, ht, hcs⟩ := hcs k l1
      have hb := hS.law
      have hcs : ∀ (j : Nat) (u : Value), t.cells[j]? = some u → wr.cell? ⟨b1, off + (k * 7 + j), none⟩ = some u := fun j u hu => (hb.cell (p := ⟨b1, off + (k * 7 + j), none⟩) hb1').trans (hcs j u hu)
      have i0 := hcs 0 _ rfl
      have i1 := hcs 1 _ rfl
      have i2 := hcs 2 _ rfl
      have i3 := hcs 3 _ rfl
      have i4 := hcs 4 _ rfl
      have i5 := hcs 5 _ rfl
      have i6 := hcs 6 _ rfl
      rw [← Nat.add_assoc] at i0
      rw [← Nat.add_assoc] at i1
      rw [← Nat.add_assoc] at i2
      rw [← Nat.add_assoc] at i3
      rw [← Nat.add_assoc] at i4
      rw [← Nat.add_assoc] at i5
      rw [← Nat.add_assoc] at i6
      rw [Nat.add_zero] at i0
      have hkn : (k : Int) < (m : Int) := by omega
      have hk100 : (k : Int) < 100 := by omega
      have hk0 : (0 : Int) ≤ (k : Int) := by omega
      have L2 := Lib.hid l2
      have B2 := hS.boxed 39 #[.slice t.pA t.pl.length t.pc, .bool t.tk, .bool t.gv, .bool t.rp, .int .i64 t.wh, .int .i64 t.wn, .int .i64 t.n]
      have bk := B2.blk
      have k0 := bk.cell 0
      have k1 := bk.cell 1
      have k2 := bk.cell 2
      have k3 := bk.cell 3
      have k4 := bk.cell 4
      have k5 := bk.cell 5
      have k6 := bk.cell 6
      simp only [List.getElem?_toArray, List.getElem?_cons_zero, List.getElem?_cons_succ] at k0 k1 k2 k3 k4 k5 k6
      have ltK := bk.lt
      have HT := Lib.hid ht
      have B2 := Lib.hid B2
      clear hcs hb hS bk l1 l2
      have HIN := Lib.hid (inside_v t.pA t.pl t.pc (wr.alloc (.cells #[.slice t.pA t.pl.length t.pc, .bool t.tk, .bool t.gv, .bool t.rp, .int .i64 t.wh, .int .i64 t.wn, .int .i64 t.n] 39)) (HT.out.far (Nat.le_refl _) B2.out.law))
      go_wp2_with fail
      refine HIN.out.mono ?_
      rintro e w2 ⟨A5, cap5, l', rfl, hl5, hio, hS5⟩
      obtain ⟨xs, q, z, b, hBo, hsq, hsz, hS⟩ := B2.out
      have hxl := hBo.len
      have hqo : q.Ok xs.length := by rw [hxl]; exact hBo.qok
      have S3 : St (fun _ => False) w (stars ([rowA 77 3 (.slice A5 l'.length cap5) l'.length (iptCells l')] ++ ([box wr.heap.size 39 #[.slice t.pA t.pl.length t.pc, .bool t.tk, .bool t.gv, .bool t.rp, .int .i64 t.wh, .int .i64 t.wn, .int .i64 t.n]] ++ BtL g gq gd xs q z P T G A1 A2 A3 A4 c1 c2 c3 c4))) w2 := (hS.join hS5).mono fun _ e => stars_app [rowA 77 3 (.slice A5 l'.length cap5) l'.length (iptCells l')] _ e
      have r0 := S3.row 0 (by simp) rfl
      have hP5 : PsAt A5 l' w2 := PsAt.of_own r0
      obtain ⟨r, hr⟩ : ∃ r, postC xs q l' = r := ⟨_, rfl⟩
      have HPO := Lib.hid (S3.dPost 7 8 (by omega) (by simp [BtL]) rfl rfl hqo (by omega) (cap := cap5) hP5 0 (by simp [BtL]) rfl (own_addr r0) (by omega) hio.n r hr)
      have HBO := Lib.hid hBo
      have HSQ := Lib.hid hsq
      have HSZ := Lib.hid hsz
      have HIO := Lib.hid hio
      have HL5 := Lib.hid hl5
      have HR := Lib.hid hr
      have HXL := Lib.hid hxl
      clear hBo hsq hsz hS S3 r0 hP5 hr hS5 hqo hio hl5 hxl HIN B2 i0 i1 i2 i3 i4 i5 i6 k0 k1 k2 k3 k4 k5 k6 ltK
      go_wp2_with fail
      refine HPO.out.mono ?_
      rintro e w4 ⟨rfl, S4⟩
      have S4 : St (fun _ => False) w (stars (rowA 77 3 (.slice A5 l'.length cap5) l'.length (iptCells l') :: ([box wr.heap.size 39 #[.slice t.pA t.pl.length t.pc, .bool t.tk, .bool t.gv, .bool t.rp, .int .i64 t.wh, .int .i64 t.wn, .int .i64 t.n]] ++ BtL g gq gd r.2.2.1 r.2.2.2 z P T G A1 A2 A3 A4 c1 c2 c3 c4))) w4 := S4
      have S4 := Lib.hid S4
      clear HPO
      go_upto_if 97 with fail
      go_cut [11] from 73 to 250 (fun pv wx => ∃ (P : List Ce) (A1 : Option Addr) (c1 : Nat), pv = .slice A1 P.length c1 ∧ BtS n w g gq gd (k + 1) k P T G A1 A2 A3 A4 c1 c2 c3 c4 [box wr.heap.size 39 #[.slice t.pA t.pl.length t.pc, .bool t.tk, .bool t.gv, .bool t.rp, .int .i64 t.wh, .int .i64 t.wn, .int .i64 t.n]] wx)
      case first =>
        as_aux_lemma =>
          have hr := HR.out
          unfold postC at hr
          by_cases hc : chainB xs l' = true
          · rw [if_pos hc] at hr
            by_cases hf : q.free < l'.length
            · rw [if_pos hf] at hr
              subst hr
              have S4 : St (fun _ => False) w (stars ([box wr.heap.size 39 #[.slice t.pA t.pl.length t.pc, .bool t.tk, .bool t.gv, .bool t.rp, .int .i64 t.wh, .int .i64 t.wn, .int .i64 t.n]] ++ BtL g gq gd xs q z P T G A1 A2 A3 A4 c1 c2 c3 c4)) w4 := St.pop S4.out
              have H1 := Lib.hid (S4.dFree 7 (by simp [BtL]) rfl)
              have S4 := Lib.hid S4
              have q1 : ¬ ((l'.length : Int) ≤ (q.free : Int)) := by omega
              clear hc hf
              go_wp2_with fail
              refine H1.out.mono ?_
              rintro e wx ⟨rfl, rfl⟩
              go_wp2_with fail
              go_meet
              case rel => exact ⟨P, A1, c1, rfl, xs, q, z, b, HBO.out, by have := HSQ.out; omega, by have := HSZ.out; omega, S4.out⟩
            · rw [if_neg hf] at hr
              have hB2 := HBO.out.post hc hf
              have hlm : (l'.map IPt.pt).length = l'.length := List.length_map ..
              obtain ⟨cn, hcn⟩ : ∃ cn : Cn, (⟨leastId q.hs, l'.map IPt.pt⟩ : Cn) = cn := ⟨_, rfl⟩
              have hck : cn.ps.length = l'.length := by rw [← hcn]; exact hlm
              have hcid : cn.id = leastId q.hs := by rw [← hcn]
              rw [hcn] at hB2
              have hpt : iptCells l' = ptCells cn.ps := by rw [← hcn]; exact ipt_pt (chainB_in (by rw [HXL.out]; omega) hc)
              obtain ⟨ce, hce⟩ : ∃ ce : Ce, (⟨cn, A5, cap5⟩ : Ce) = ce := ⟨_, rfl⟩
              have hcec : ce.c = cn := by rw [← hce]
              have hceA : ce.A = A5 := by rw [← hce]
              have hcep : ce.cap = cap5 := by rw [← hce]
              have hsq2 : (q.posted l'.length).since ≤ 5 * (k + 1) := by show q.since + l'.length ≤ _; have := HSQ.out; have := HL5.out; omega
              subst hr
              have S4 := S4.out
              have S4 : St (fun _ => False) w (stars (partsA ce :: ([box wr.heap.size 39 #[.slice t.pA t.pl.length t.pc, .bool t.tk, .bool t.gv, .bool t.rp, .int .i64 t.wh, .int .i64 t.wn, .int .i64 t.n]] ++ BtL g gq gd (putN q (l'.map IPt.pt) (leastId q.hs) xs l'.length) (q.posted l'.length) z P T G A1 A2 A3 A4 c1 c2 c3 c4))) w4 := by
                unfold partsA
                rw [hceA, hcep, hcec, hck, ← hpt]
                exact S4
              obtain ⟨xs1, hxs1⟩ : ∃ X, putN q (l'.map IPt.pt) (leastId q.hs) xs l'.length = X := ⟨_, rfl⟩
              obtain ⟨q1, hq1⟩ : ∃ x, q.posted l'.length = x := ⟨_, rfl⟩
              rw [hxs1, hq1] at S4 hB2
              rw [hq1] at hsq2
              have P4 := Lib.hid (S4.pushRow 44 3 1 ce.cells rfl (by decide) (by decide))
              have R0 := Lib.hid (P4.out.row 0 (by simp) rfl)
              have ece : ce.cells = [.int .i64 (leastId q.hs : Int), .int .i64 (l'.length : Int), .slice A5 l'.length cap5] := by unfold Ce.cells; rw [hcec, hcid, hck, hceA, hcep]
              have HCE := Lib.hid ece
              have HCC := Lib.hid hcec
              have HB3 := Lib.hid hB2
              have HSQ2 := Lib.hid hsq2
              have HPL := Lib.hid (show P.length ≤ 32 by have h3 := szs_le HBO.out; have h4 := HBO.out.n2; rw [List.length_map, List.length_map] at h3; omega)
              rw [ece] at P4 R0
              clear hB2 hlm hcn hck hcid hpt hce hceA hcep hsq2 hxs1 hq1 S4 ece hc hf hcec
              go_wp2_with (at_builtin; refine wpList_append_c P4.out 3 (by simp [BtL]) rfl rfl (.tmp 98) (.tmp 104) 35 rfl i0 _ 40 Try.underlying35 HI.out HZ0.out HZ1.out HZ2.out rfl rfl ⟨w4.heap.size, 0, none⟩ [.int .i64 (leastId q.hs : Int), .int .i64 (l'.length : Int), .slice A5 l'.length cap5] rfl rfl (R0.out.cells (g := w4.heap.size) rfl) (by rw [← HCE.out]; exact ce_one1 ce) (by have := HPL.out; unfold maxLen; omega) (by have := HPL.out; omega) ?_; intro A6 cap6 w6 S6)
              have S6 : St (fun _ => False) w (stars (rowA 44 3 (.slice (some ⟨w4.heap.size, 0, none⟩) 1 1) 1 [.int .i64 (leastId q.hs : Int), .int .i64 (l'.length : Int), .slice A5 l'.length cap5] :: (partsA ce :: ([box wr.heap.size 39 #[.slice t.pA t.pl.length t.pc, .bool t.tk, .bool t.gv, .bool t.rp, .int .i64 t.wh, .int .i64 t.wn, .int .i64 t.n]] ++ [rowC 3 (.slice A6 (P.length + 1) cap6) (P.length + 1) (ceCells P ++ [.int .i64 (leastId q.hs : Int), .int .i64 (l'.length : Int), .slice A5 l'.length cap5]), ptsA P, rowC 3 (.slice A2 T.length c2) T.length (ceCells T), rowC 1 (.slice A3 G.length c3) G.length (idsV G), rowC 1 (.slice A4 G.length c4) G.length (wrsV G), memA g xs1, drvA gq g q1, devA gd g z])))) w6 := S6
              have S7 := (St.pop S6).merge 2 (by simp) (ptsA (P ++ [ce])) (fun F x => ptsA_add x)
              have ecs : ceCells P ++ [.int .i64 (leastId q.hs : Int), .int .i64 (l'.length : Int), .slice A5 l'.length cap5] = ceCells (P ++ [ce]) := by rw [ceCells_append, ceCells_one, HCE.out]
              rw [ecs] at S7
              have elp : (P ++ [ce]).length = P.length + 1 := by simp
              have S7 : St (fun _ => False) w (stars ([box wr.heap.size 39 #[.slice t.pA t.pl.length t.pc, .bool t.tk, .bool t.gv, .bool t.rp, .int .i64 t.wh, .int .i64 t.wn, .int .i64 t.n]] ++ BtL g gq gd xs1 q1 z (P ++ [ce]) T G A6 A2 A3 A4 cap6 c2 c3 c4)) w6 := by
                unfold BtL
                rw [elp]
                exact S7
              have S7 := Lib.hid S7
              clear P4 R0 S6
              go_wp2_with fail
              go_meet
              case rel =>
                refine ⟨P ++ [ce], A6, cap6, by rw [elp], xs1, q1, z, b, ?_, HSQ2.out, by have := HSZ.out; omega, S7.out⟩
                rw [List.map_append, List.map_cons, List.map_nil, HCC.out]
                exact HB3.out
          · rw [if_neg hc] at hr
            subst hr
            have S4 : St (fun _ => False) w (stars ([box wr.heap.size 39 #[.slice t.pA t.pl.length t.pc, .bool t.tk, .bool t.gv, .bool t.rp, .int .i64 t.wh, .int .i64 t.wn, .int .i64 t.n]] ++ BtL g gq gd xs q z P T G A1 A2 A3 A4 c1 c2 c3 c4)) w4 := St.pop S4.out
            have S4 := Lib.hid S4
            clear hc
            go_wp2_with fail
            go_meet
            case rel => exact ⟨P, A1, c1, rfl, xs, q, z, b, HBO.out, by have := HSQ.out; omega, by have := HSZ.out; omega, S4.out⟩
      case rest =>
        obtain ⟨P, A1, c1, rfl, B2⟩ := hcut
        clear S4 HR HBO HSQ HSZ HIO HL5 HXL
        have bk := B2.blk
        have k0 := bk.cell 0
        have k1 := bk.cell 1
        have k2 := bk.cell 2
        have k3 := bk.cell 3
        have k4 := bk.cell 4
        have k5 := bk.cell 5
        have k6 := bk.cell 6
        simp only [List.getElem?_toArray, List.getElem?_cons_zero, List.getElem?_cons_succ] at k0 k1 k2 k3 k4 k5 k6
        have ltK := bk.lt
        have B2 := Lib.hid B2
        clear bk
        go_upto_if 116 with fail
        go_cut [11, 12, 20, 21, 22] from 73 to 250 (fun pv tv _ _ _ wx => ∃ (P T : List Ce) (A1 A2 : Option Addr) (c1 c2 : Nat), pv = .slice A1 P.length c1 ∧ tv = .slice A2 T.length c2 ∧ BtS n w g gq gd (k + 1) k P T G A1 A2 A3 A4 c1 c2 c3 c4 [box wr.heap.size 39 #[.slice t.pA t.pl.length t.pc, .bool t.tk, .bool t.gv, .bool t.rp, .int .i64 t.wh, .int .i64 t.wn, .int .i64 t.n]] wx)
        case first =>
          as_aux_lemma =>
            obtain ⟨tk, htk⟩ : ∃ v, t.tk = v := ⟨_, rfl⟩
            rw [htk]
            clear htk
            cases tk
            · go_wp2_with fail
              go_meet
              case rel => exact ⟨P, T, A1, A2, c1, c2, rfl, rfl, B2.out⟩
            · obtain ⟨xs, q, z, b, hBo, hsq, hsz, hS⟩ := B2.out
              have hzo : z.Ok xs.length := by rw [hBo.len]; exact hBo.zok
              obtain ⟨np, hnp⟩ : ∃ np, P.length = np := ⟨_, rfl⟩
              by_cases h0 : np = 0
              · have hP : P = [] := List.eq_nil_of_length_eq_zero (by omega)
                have hPm : P.map Ce.c = [] := by rw [hP]; rfl
                have hnx : nextC xs z = (noCh, false, 0, z) := by rw [hPm] at hBo; exact hBo.next_none
                have HNX := Lib.hid (hS.dvNext 6 8 (by omega) (by simp [BtL]) rfl rfl hzo _ hnx)
                have HBO := Lib.hid hBo
                have HSQ := Lib.hid hsq
                have HSZ := Lib.hid hsz
                have HNP := Lib.hid hnp
                rw [hnp]
                subst h0
                clear hBo hsq hsz hzo hS hnx hP hPm hnp B2 k0 k1 k2 k3 k4 k5 k6 ltK
                go_wp2_with fail
                refine HNX.out.mono ?_
                rintro e w2 ⟨A5, cap5, rfl, -, S2⟩
                have S2 : St (fun _ => False) w (stars ([box wr.heap.size 39 #[.slice t.pA t.pl.length t.pc, .bool t.tk, .bool t.gv, .bool t.rp, .int .i64 t.wh, .int .i64 t.wn, .int .i64 t.n]] ++ BtL g gq gd xs q z P T G A1 A2 A3 A4 c1 c2 c3 c4)) w2 := S2
                have S3 := Lib.hid (S2.alloc (.cells #[.int .i64 0, .int .i64 0, .slice A5 0 cap5] 44))
                clear HNX S2
                go_wp2_with fail
                go_meet
                case rel => exact ⟨P, T, A1, A2, c1, c2, by rw [HNP.out], rfl, xs, q, z, b, HBO.out, HSQ.out, HSZ.out, S3.out⟩
              · obtain ⟨nt, hnt⟩ : ∃ nt, np = nt + 1 := ⟨np - 1, by omega⟩
                subst hnt
                obtain ⟨ce, P, rfl⟩ := List.exists_cons_of_length_eq_add_one hnp
                have hPl : P.length = nt := by simpa using hnp
                have hBo : Both n xs q z (ce.c :: P.map Ce.c) (T.map Ce.c) G b := hBo
                obtain ⟨hnx, hB2⟩ := hBo.next_some
                have HNX := Lib.hid (hS.dvNext 6 8 (by omega) (by simp [BtL]) rfl rfl hzo _ hnx)
                have hl64 := (hBo.okP ce.c (List.mem_cons_self ..)).l64
                have hTl := (szs_le hBo).2.1
                have hn2' := hBo.n2
                rw [List.length_map] at hTl
                have HB2 := Lib.hid hB2
                have HSQ := Lib.hid hsq
                have HSZ := Lib.hid (show (takenQ' z ce.c.ps.length).since ≤ 64 * k from hsz)
                have HPL := Lib.hid hPl
                have H64 := Lib.hid hl64
                have HTL := Lib.hid (show T.length ≤ 32 by omega)
                have HNP := Lib.hid hnp
                have gp : (0 : Int) < ((nt + 1 : Nat) : Int) := by omega
                have gp2 : (0 : Int) < (nt : Int) + 1 := by omega
                rw [hnp]
                clear hBo hsq hsz hzo hS hnx hnp hB2 hPl hl64 hTl hn2' h0 B2 k0 k1 k2 k3 k4 k5 k6 ltK
                go_wp2_with fail
                refine HNX.out.mono ?_
                rintro e w2 ⟨A5, cap5, rfl, own5, S2⟩
                have S2 : St (fun _ => False) w (stars ([box wr.heap.size 39 #[.slice t.pA t.pl.length t.pc, .bool t.tk, .bool t.gv, .bool t.rp, .int .i64 t.wh, .int .i64 t.wn, .int .i64 t.n]] ++ BtL g gq gd xs q (takenQ' z ce.c.ps.length) (ce :: P) T G A1 A2 A3 A4 c1 c2 c3 c4)) w2 := S2
                have S3 := S2.push 44 #[.int .i64 (ce.c.id : Int), .int .i64 (ce.c.ps.length : Int), .slice A5 ce.c.ps.length cap5]
                have p6 := (PtsAt.of_own (l := ce.c.ps) own5).below (ba (Below.refl _ w2) (.cells #[.int .i64 (ce.c.id : Int), .int .i64 (ce.c.ps.length : Int), .slice A5 ce.c.ps.length cap5] 44))
                obtain ⟨Fp, hFp⟩ := S3.get 3 (by simp [BtL])
                have p7 : PtsAt ce.A ce.c.ps (w2.alloc (.cells #[.int .i64 (ce.c.id : Int), .int .i64 (ce.c.ps.length : Int), .slice A5 ce.c.ps.length cap5] 44)) := ptsA_head hFp
                obtain ⟨b2, off2, rfl, hle2, hbl2, hcs2⟩ := S3.rowc 2 (by simp [BtL]) rfl (by simp)
                obtain ⟨x0, x1, x2⟩ := ceCells_at (ce :: P) 0 (by simp)
                have x0 := hcs2 _ _ x0
                have x1 := hcs2 _ _ x1
                have x2 := hcs2 _ _ x2
                have bk := S3.blk 0 (by simp) rfl
                have d0 := bk.cell 0
                have d1 := bk.cell 1
                have d2 := bk.cell 2
                simp only [List.getElem?_toArray, List.getElem?_cons_zero, List.getElem?_cons_succ, List.getElem_cons_zero, Nat.zero_mul, Nat.add_zero, Nat.zero_add] at d0 d1 d2 x0 x1 x2
                have hlt3 := bk.lt
                have S3 : St (fun _ => False) w (stars (box w2.heap.size 44 #[.int .i64 (ce.c.id : Int), .int .i64 (ce.c.ps.length : Int), .slice A5 ce.c.ps.length cap5] :: ([box wr.heap.size 39 #[.slice t.pA t.pl.length t.pc, .bool t.tk, .bool t.gv, .bool t.rp, .int .i64 t.wh, .int .i64 t.wn, .int .i64 t.n]] ++ BtL g gq gd xs q (takenQ' z ce.c.ps.length) (ce :: P) T G (some ⟨b2, off2, none⟩) A2 A3 A4 c1 c2 c3 c4))) (w2.alloc (.cells #[.int .i64 (ce.c.id : Int), .int .i64 (ce.c.ps.length : Int), .slice A5 ce.c.ps.length cap5] 44)) := S3
                have hdr : Below (w2.alloc (.cells #[.int .i64 (ce.c.id : Int), .int .i64 (ce.c.ps.length : Int), .slice A5 ce.c.ps.length cap5] 44)).heap.size (w2.alloc (.cells #[.int .i64 (ce.c.id : Int), .int .i64 (ce.c.ps.length : Int), .slice A5 ce.c.ps.length cap5] 44)) (w2.alloc (.cells #[.int .i64 (ce.c.id : Int), .int .i64 (ce.c.ps.length : Int), .slice A5 ce.c.ps.length cap5] 44)).drew := (Below.refl _ _).drew
                have S3d := Lib.hid (S3.below hdr)
                have HSM : Calls Try.prog 14 #[.agg #[.int .i64 (ce.c.id : Int), .int .i64 (ce.c.ps.length : Int), .slice A5 ce.c.ps.length cap5], .agg #[.int .i64 (ce.c.id : Int), .int .i64 (ce.c.ps.length : Int), .slice ce.A ce.c.ps.length ce.cap]] (w2.alloc (.cells #[.int .i64 (ce.c.id : Int), .int .i64 (ce.c.ps.length : Int), .slice A5 ce.c.ps.length cap5] 44)).drew fun e w' => e = .returned (.bool true) ∧ Below (w2.alloc (.cells #[.int .i64 (ce.c.id : Int), .int .i64 (ce.c.ps.length : Int), .slice A5 ce.c.ps.length cap5] 44)).drew.heap.size (w2.alloc (.cells #[.int .i64 (ce.c.id : Int), .int .i64 (ce.c.ps.length : Int), .slice A5 ce.c.ps.length cap5] 44)).drew w' :=
                  chain_same ⟨ce.c.id, ce.c.ps.length, ce.c.ps⟩ A5 ce.A cap5 ce.cap _ (by have := H64.out; show ce.c.ps.length ≤ 8192; omega) (p6.below hdr) (p7.below hdr)
                have HSM := Lib.hid HSM
                have X1 := Lib.hid (BsF.of (w := w) ⟨⟨d0, d1, d2⟩, x0, x1, x2⟩ hlt3 hbl2 hdr S3d.out)
                have g0 : (0 : Int) ≤ 0 := by omega
                clear S2 S3 p6 p7 hFp own5 bk HNX hdr hcs2
                go_wp2_with fail
                go_region_held3 (fun W => ((W.cell? ⟨w2.heap.size, 0, none⟩ = some (.int .i64 (ce.c.id : Int)) ∧ W.cell? ⟨w2.heap.size, 1, none⟩ = some (.int .i64 (ce.c.ps.length : Int)) ∧ W.cell? ⟨w2.heap.size, 2, none⟩ = some (.slice A5 ce.c.ps.length cap5)) ∧ W.cell? ⟨b2, off2, none⟩ = some (.int .i64 (ce.c.id : Int)) ∧ W.cell? ⟨b2, off2 + 1, none⟩ = some (.int .i64 (ce.c.ps.length : Int)) ∧ W.cell? ⟨b2, off2 + 2, none⟩ = some (.slice ce.A ce.c.ps.length ce.cap)) ∧ (w2.heap.size < W.heap.size ∧ b2 < W.heap.size) ∧ ∃ l, St (fun _ => False) w (stars l) W)
                  ((refine (_root_.id (α := BsF w w2.heap.size b2 off2 ce A5 cap5 _) ?_); with_reducible (first | exact X1.out | exact Z2)))
                  ((go_at_call 14; ((with_reducible refine HSM.out.mono ?_); rintro e w5 ⟨rfl, hb5⟩; have Z2 := BsF.below X1.out hb5)))
                obtain ⟨⟨⟨d0, d1, d2⟩, -⟩, ⟨hlt5, -⟩, -⟩ := Z2
                have S5 := S3d.out.below hb5
                have P5 := Lib.hid (S5.pushRow 44 3 1 [.int .i64 (ce.c.id : Int), .int .i64 (ce.c.ps.length : Int), .slice A5 ce.c.ps.length cap5] rfl (by decide) (by decide))
                have R0 := Lib.hid (P5.out.row 0 (by simp) rfl)
                clear x0 x1 x2 X1 HSM S3d hb5 S5 hlt3
                have u1 : (1 : Int) ≤ ((nt + 1 : Nat) : Int) := by omega
                have u2 : (1 : Int) ≤ (nt : Int) + 1 := by omega
                have u3 : ((nt + 1 : Nat) : Int) ≤ (c1 : Int) := by have := HPL.out; simp only [List.length_cons] at hle2; omega
                have u4 : (nt : Int) + 1 ≤ (c1 : Int) := by have := HPL.out; simp only [List.length_cons] at hle2; omega
                go_wp2_with (at_builtin; refine wpList_append_c P5.out 5 (by simp [BtL]) rfl rfl (.tmp 141) (.tmp 143) 35 rfl i0 _ 40 Try.underlying35 HI.out HZ0.out HZ1.out HZ2.out rfl rfl ⟨w5.heap.size, 0, none⟩ [.int .i64 (ce.c.id : Int), .int .i64 (ce.c.ps.length : Int), .slice A5 ce.c.ps.length cap5] rfl rfl (R0.out.cells (g := w5.heap.size) rfl) (ce_one1 ⟨ce.c, A5, cap5⟩) (by have := HTL.out; unfold maxLen; omega) (by have := HTL.out; omega) ?_; intro A6 cap6 w6 S6)
                case inl hz =>
                  have S7 := Lib.hid (bt_took (A5 := A5) (cap5 := cap5) S6 (some ⟨b2, off2, none⟩) (fun h => by omega))
                  have hz2 := Lib.hid (show c1 - 1 = 0 by omega)
                  go_meet
                  case rel =>
                    refine ⟨P, T ++ [⟨ce.c, A5, cap5⟩], some ⟨b2, off2, none⟩, A6, c1 - 1, cap6, by rw [HPL.out, hz2.out], by rw [List.length_append]; rfl, xs, q, takenQ' z ce.c.ps.length, b, ?_, HSQ.out, HSZ.out, S7.out⟩
                    rw [List.map_append]
                    exact HB2.out
                case inr hz =>
                  have S7 := Lib.hid (bt_took (A5 := A5) (cap5 := cap5) S6 (some ⟨b2, off2 + 3, none⟩) (fun _ => rfl))
                  go_meet
                  case rel =>
                    refine ⟨P, T ++ [⟨ce.c, A5, cap5⟩], some ⟨b2, off2 + 3, none⟩, A6, c1 - 1, cap6, by rw [HPL.out], by rw [List.length_append]; rfl, xs, q, takenQ' z ce.c.ps.length, b, ?_, HSQ.out, HSZ.out, S7.out⟩
                    rw [List.map_append]
                    exact HB2.out
        case rest =>
          obtain ⟨P, T, A1, A2, c1, c2, rfl, rfl, B3⟩ := hcut
          clear B2 k0 k1 k2 k3 k4 k5 k6 ltK
          have bk := B3.blk
          have k0 := bk.cell 0
          have k1 := bk.cell 1
          have k2 := bk.cell 2
          have k3 := bk.cell 3
          have k4 := bk.cell 4
          have k5 := bk.cell 5
          have k6 := bk.cell 6
          simp only [List.getElem?_toArray, List.getElem?_cons_zero, List.getElem?_cons_succ] at k0 k1 k2 k3 k4 k5 k6
          have ltK := bk.lt
          have B3 := Lib.hid B3
          clear bk
          go_upto_region 30 with fail
          go_cut [151] from 73 to 250 (fun v wx => v = .bool (t.gv && decide (0 < T.length)) ∧ BtS n w g gq gd (k + 1) k P T G A1 A2 A3 A4 c1 c2 c3 c4 [box wr.heap.size 39 #[.slice t.pA t.pl.length t.pc, .bool t.tk, .bool t.gv, .bool t.rp, .int .i64 t.wh, .int .i64 t.wn, .int .i64 t.n]] wx)
          case first =>
            as_aux_lemma =>
              obtain ⟨gv, hgv⟩ : ∃ v, t.gv = v := ⟨_, rfl⟩
              rw [hgv] at k2
              have HGV := Lib.hid hgv
              clear hgv
              cases gv
              · go_wp2_with fail
                go_meet
                case rel => exact ⟨by rw [HGV.out]; rfl, B3.out⟩
              · by_cases h0 : 0 < T.length
                · have g1 : (0 : Int) < (T.length : Int) := by omega
                  have e1 : decide (0 < T.length) = true := decide_eq_true h0
                  have E1 := Lib.hid e1
                  clear e1 h0
                  go_wp2_with fail
                  go_meet
                  case rel => exact ⟨by rw [HGV.out, E1.out] <;> rfl, B3.out⟩
                · have g1 : ¬ (0 : Int) < (T.length : Int) := by omega
                  have e1 : decide (0 < T.length) = false := decide_eq_false h0
                  have E1 := Lib.hid e1
                  clear e1 h0
                  go_wp2_with fail
                  go_meet
                  case rel => exact ⟨by rw [HGV.out, E1.out] <;> rfl, B3.out⟩
          case rest =>
            obtain ⟨rfl, B4⟩ := hcut
            clear B3 k0 k1 k2 k3 k4 k5 k6 ltK
            have bk := B4.blk
            have k0 := bk.cell 0
            have k1 := bk.cell 1
            have k2 := bk.cell 2
            have k3 := bk.cell 3
            have k4 := bk.cell 4
            have k5 := bk.cell 5
            have k6 := bk.cell 6
            simp only [List.getElem?_toArray, List.getElem?_cons_zero, List.getElem?_cons_succ] at k0 k1 k2 k3 k4 k5 k6
            have ltK := bk.lt
            have B4 := Lib.hid B4
            clear bk
            obtain ⟨V, hV⟩ : ∃ V, (t.gv && decide (0 < T.length)) = V := ⟨_, rfl⟩
            rw [hV]
            have HV := Lib.hid hV
            clear hV
            go_upto_if 151 with fail
            go_cut [12, 13, 14, 23, 24] from 73 to 250 (fun tv dv ev _ _ wx => ∃ (T : List Ce) (G : List Gv) (A2 A3 A4 : Option Addr) (c2 c3 c4 : Nat), tv = .slice A2 T.length c2 ∧ dv = .slice A3 G.length c3 ∧ ev = .slice A4 G.length c4 ∧ BtS n w g gq gd (k + 1) (k + 1) P T G A1 A2 A3 A4 c1 c2 c3 c4 [box wr.heap.size 39 #[.slice t.pA t.pl.length t.pc, .bool t.tk, .bool t.gv, .bool t.rp, .int .i64 t.wh, .int .i64 t.wn, .int .i64 t.n]] wx)
            case first =>
              as_aux_lemma =>
                cases V
                · go_wp2_with fail
                  go_meet
                  case rel =>
                    obtain ⟨xs, q, z, b, hBo, hsq, hsz, hS⟩ := B4.out
                    exact ⟨T, G, A2, A3, A4, c2, c3, c4, rfl, rfl, rfl, xs, q, z, b, hBo, hsq, by omega, hS⟩
                · have hT0 : 0 < T.length := by
                    have := HV.out
                    simp only [Bool.and_eq_true, decide_eq_true_eq] at this
                    exact this.2
                  obtain ⟨xs, q, z, b, hBo, hsq, hsz, hS⟩ := B4.out
                  have hzo : z.Ok xs.length := by rw [hBo.len]; exact hBo.zok
                  have hln := szs_le hBo
                  rw [List.length_map, List.length_map] at hln
                  have hn2' := hBo.n2
                  obtain ⟨nt, hnt⟩ : ∃ nt, T.length = nt := ⟨_, rfl⟩
                  rw [hnt] at hT0 hln
                  have hnt32 : nt ≤ 32 := by omega
                  have hng32 : G.length ≤ 32 := by omega
                  obtain ⟨X, hX, eX⟩ := and16 t.wh
                  obtain ⟨Y, hY, eY⟩ := and16 t.wn
                  obtain ⟨kk, hkk, ekk⟩ : ∃ kk : Nat, kk < nt ∧ (X : Int).tmod (nt : Int) = (kk : Int) := ⟨X % nt, Nat.mod_lt _ hT0, by rw [Int.ofNat_tmod]⟩
                  have hkT : kk < T.length := by rw [hnt]; exact hkk
                  obtain ⟨ce, hce⟩ : ∃ ce, T[kk] = ce := ⟨_, rfl⟩
                  have hkm : kk < (T.map Ce.c).length := by rw [List.length_map]; exact hkT
                  have hcm : (T.map Ce.c)[kk] = ce.c := by rw [List.getElem_map, hce]
                  obtain ⟨hdn, hB2⟩ := hBo.done kk hkm Y (by omega)
                  rw [hcm] at hdn hB2
                  have hck := hBo.lens ce.c (by rw [← hcm]; exact List.getElem_mem hkm)
                  have hmp : (T.map Ce.c).eraseIdx kk = (T.eraseIdx kk).map Ce.c := map_erase T kk
                  rw [hmp] at hB2
                  obtain ⟨b2, off2, rfl, hle2, hbl2, hcs2⟩ := hS.rowc 3 (by simp [BtL]) rfl (by rw [hnt]; exact hT0)
                  obtain ⟨x0, x1, -⟩ := ceCells_at T kk hkT
                  rw [hce] at x0 x1
                  have y0 := hcs2 _ _ x0
                  have y1 := hcs2 _ _ x1
                  rw [← Nat.add_assoc] at y1
                  have hSd := hS.drew
                  have hsi1 : z.since ≤ 1099511627776 := by omega
                  have HDN := Lib.hid (hSd.dvDone 6 8 (by omega) (by simp [BtL]) rfl rfl hzo hsi1 (ce.c.id : Int) (ce.c.ps.length : Int) (Y : Int) _ hdn)
                  have q1 : (kk : Int) < (nt : Int) := by omega
                  have q2 : (0 : Int) ≤ (kk : Int) := by omega
                  have q3 : ¬ ((nt : Int) = 0) := by omega
                  have q4 : ((nt : Int) == 0) = false := by simp; omega
                  have q5 : ¬ (nt = 0) := by omega
                  have q6 : IntKind.i64.wrap (kk : Int) = (kk : Int) := IntWalk.i64_in _ (by omega)
                  have ekk2 : (X : Int) % (nt : Int) = (kk : Int) := by rw [← ekk, Int.tmod_eq_emod_of_nonneg (by omega)]
                  have X1 := Lib.hid (DnF.of hSd 3 (by simp [BtL]) rfl hkT hce)
                  rw [hnt]
                  have Hce := Lib.hid hce
                  have HB2 := Lib.hid hB2
                  have Hnt := Lib.hid hnt
                  have HkT := Lib.hid hkT
                  have HX2 := Lib.hid (show (doneQ z ce.c.ps.length).since ≤ 64 * (k + 1) by show z.since + _ ≤ _; omega)
                  have HSQ := Lib.hid hsq
                  have Hnt32 := Lib.hid hnt32
                  have Hng32 := Lib.hid hng32
                  obtain ⟨xs1, hxs1⟩ : ∃ X, usedX xs z ce.c.id Y = X := ⟨_, rfl⟩
                  obtain ⟨z1, hz1⟩ : ∃ x, doneQ z ce.c.ps.length = x := ⟨_, rfl⟩
                  rw [hxs1, hz1] at HDN HB2
                  rw [hz1] at HX2
                  clear hBo hsq hsz hS hzo hln hn2' hT0 hX hY hkk hce hkm hcm hdn hB2 hck hmp hbl2 hcs2 x0 x1 hSd hsi1 hnt hnt32 hng32 hxs1 hz1 B4 hle2
                  have q7 := X1.out.1.1
                  go_upto_region 33 with fail
                  go_region_held3 (fun W => (W.cell? ⟨b2, off2 + kk * 3, none⟩ = some (.int .i64 (ce.c.id : Int)) ∧ W.cell? ⟨b2, off2 + kk * 3 + 1, none⟩ = some (.int .i64 (ce.c.ps.length : Int))) ∧ ∃ l, St (fun _ => False) w (stars l) W)
                    ((refine (_root_.id (α := DnF w b2 (off2 + kk * 3) ce _) ?_); with_reducible (first | exact X1.out | exact Z2)))
                    ((go_at_call 15; ((with_reducible refine HDN.out.mono ?_); rintro e w5 ⟨rfl, S5⟩; have Z2 := DnF.of S5 3 (by simp [BtL]) rfl HkT.out Hce.out)))
                  have S5 : St (fun _ => False) w (stars ([box wr.heap.size 39 #[.slice t.pA t.pl.length t.pc, .bool t.tk, .bool t.gv, .bool t.rp, .int .i64 t.wh, .int .i64 t.wn, .int .i64 t.n]] ++ BtL g gq gd xs1 q z1 P T G A1 (some ⟨b2, off2, none⟩) A3 A4 c1 c2 c3 c4)) w5 := S5
                  have y0 := Z2.1.1
                  have P6 := Lib.hid (S5.pushRow 3 1 1 [.int .i64 (ce.c.id : Int)] rfl (by decide) (by decide))
                  have R0 := Lib.hid (P6.out.row 0 (by simp) rfl)
                  clear Z2 X1 HDN S5 q7
                  go_wp2_with (first
                    | (at_builtin; refine wpList_append_c P6.out 5 (by simp [BtL]) rfl rfl (.tmp 175) (.tmp 181) 36 rfl j0 _ 8 Try.underlying36 JI.out JZ0.out JZ1.out JZ2.out rfl rfl ⟨w5.heap.size, 0, none⟩ [.int .i64 (ce.c.id : Int)] rfl rfl (R0.out.cells (g := w5.heap.size) rfl) (by intro u hu; rw [List.mem_singleton] at hu; subst hu; rfl) (by have := Hng32.out; unfold maxLen; omega) (by have := Hng32.out; omega) ?_; intro A6 cap6 w6 S6; have S7 := Lib.hid ((St.pop S6).pushRow 3 1 1 [.int .i64 (Y : Int)] rfl (by decide) (by decide)); have R1 := Lib.hid (S7.out.row 0 (by simp) rfl); clear S6 P6 R0 y0)
                    | (at_builtin; refine wpList_append_c S7.out 6 (by simp [BtL]) rfl rfl (.tmp 183) (.tmp 185) 36 rfl j0 _ 8 Try.underlying36 JI.out JZ0.out JZ1.out JZ2.out rfl rfl ⟨w6.heap.size, 0, none⟩ [.int .i64 (Y : Int)] rfl rfl (R1.out.cells (g := w6.heap.size) rfl) (by intro u hu; rw [List.mem_singleton] at hu; subst hu; rfl) (by have := Hng32.out; unfold maxLen; omega) (by have := Hng32.out; omega) ?_; intro A7 cap7 w7 S8))
                  have S8 : St (fun _ => False) w (stars ([box wr.heap.size 39 #[.slice t.pA t.pl.length t.pc, .bool t.tk, .bool t.gv, .bool t.rp, .int .i64 t.wh, .int .i64 t.wn, .int .i64 t.n]] ++ [rowC 3 (.slice A1 P.length c1) P.length (ceCells P), ptsA P, rowC 3 (.slice (some ⟨b2, off2, none⟩) T.length c2) T.length (ceCells T), rowC 1 (.slice A6 (G.length + 1) cap6) (G.length + 1) (idsV G ++ [.int .i64 (ce.c.id : Int)]), rowC 1 (.slice A7 (G.length + 1) cap7) (G.length + 1) (wrsV G ++ [.int .i64 (Y : Int)]), memA g xs1, drvA gq g q, devA gd g z1])) w7 := St.pop S8
                  have HW := without_v (some ⟨b2, off2, none⟩) T c2 kk w7 (fun h0 => by
                    obtain ⟨b9, off9, h1, -, h3, h4⟩ := S8.rowc 3 (by simp) rfl h0
                    exact ⟨b9, off9, h1, h3, h4⟩) (by have := Hnt.out; have := Hnt32.out; omega)
                  rw [Hnt.out] at HW
                  have HW := Lib.hid HW
                  have S8 := Lib.hid S8
                  clear S7 R1
                  go_wp2_with fail
                  refine HW.out.mono ?_
                  rintro e w8 ⟨A9, cap9, rfl, hs9⟩
                  have S9 : St (fun _ => False) w (stars (rowC 3 (.slice A9 (T.eraseIdx kk).length cap9) (T.eraseIdx kk).length (ceCells (T.eraseIdx kk)) :: ([box wr.heap.size 39 #[.slice t.pA t.pl.length t.pc, .bool t.tk, .bool t.gv, .bool t.rp, .int .i64 t.wh, .int .i64 t.wn, .int .i64 t.n]] ++ [rowC 3 (.slice A1 P.length c1) P.length (ceCells P), ptsA P, rowC 3 (.slice (some ⟨b2, off2, none⟩) T.length c2) T.length (ceCells T), rowC 1 (.slice A6 (G.length + 1) cap6) (G.length + 1) (idsV G ++ [.int .i64 (ce.c.id : Int)]), rowC 1 (.slice A7 (G.length + 1) cap7) (G.length + 1) (wrsV G ++ [.int .i64 (Y : Int)]), memA g xs1, drvA gq g q, devA gd g z1]))) w8 := (S8.out.join hs9).mono fun _ e => stars_app [rowC 3 (.slice A9 (T.eraseIdx kk).length cap9) (T.eraseIdx kk).length (ceCells (T.eraseIdx kk))] _ e
                  have S10 := bt_given (ce := ce) (Y := Y) (S9.swapIn 3 (by simp))
                  have S10 := Lib.hid S10
                  clear S8 S9 hs9 HW
                  go_wp2_with fail
                  go_meet
                  case rel => exact ⟨T.eraseIdx kk, G ++ [⟨ce.c.id, ce.c.ps.length, Y⟩], A9, A6, A7, cap9, cap6, cap7, rfl, by rw [List.length_append]; rfl, by rw [List.length_append]; rfl, xs1, q, z1, b, HB2.out, HSQ.out, HX2.out, S10.out⟩
            case rest =>
              obtain ⟨T, G, A2, A3, A4, c2, c3, c4, rfl, rfl, rfl, B5⟩ := hcut
              clear B4 HV k0 k1 k2 k3 k4 k5 k6 ltK
              have bk := B5.blk
              have k0 := bk.cell 0
              have k1 := bk.cell 1
              have k2 := bk.cell 2
              have k3 := bk.cell 3
              have k4 := bk.cell 4
              have k5 := bk.cell 5
              have k6 := bk.cell 6
              simp only [List.getElem?_toArray, List.getElem?_cons_zero, List.getElem?_cons_succ] at k0 k1 k2 k3 k4 k5 k6
              have ltK := bk.lt
              have B5 := Lib.hid B5
              clear bk
              go_upto_if 191 with fail
              go_cut [13, 14, 25, 26, 27, 28] from 73 to 250 (fun dv ev _ _ _ _ wx => ∃ (G : List Gv) (A3 A4 : Option Addr) (c3 c4 : Nat), dv = .slice A3 G.length c3 ∧ ev = .slice A4 G.length c4 ∧ BtS n w g gq gd (k + 1) (k + 1) P T G A1 A2 A3 A4 c1 c2 c3 c4 [box wr.heap.size 39 #[.slice t.pA t.pl.length t.pc, .bool t.tk, .bool t.gv, .bool t.rp, .int .i64 t.wh, .int .i64 t.wn, .int .i64 t.n]] wx)
              case first =>
                as_aux_lemma =>
                  obtain ⟨rp, hrp⟩ : ∃ v, t.rp = v := ⟨_, rfl⟩
                  rw [hrp]
                  clear hrp
                  cases rp
                  · go_wp2_with fail
                    go_meet
                    case rel => exact ⟨G, A3, A4, c3, c4, rfl, rfl, B5.out⟩
                  · obtain ⟨xs, q, z, b, hBo, hsq, hsz, hS⟩ := B5.out
                    have hqo : q.Ok xs.length := by rw [hBo.len]; exact hBo.qok
                    obtain ⟨ng, hng⟩ : ∃ ng, G.length = ng := ⟨_, rfl⟩
                    by_cases h0 : ng = 0
                    · have hG : G = [] := List.eq_nil_of_length_eq_zero (by omega)
                      have hrp : reapC xs q = (0, 0, false, 0, q) := by rw [hG] at hBo; exact hBo.reap_none
                      have HRP := Lib.hid (hS.dReap 6 7 (by omega) (by simp [BtL]) rfl rfl hqo _ hrp)
                      have HBO := Lib.hid hBo
                      have HSQ := Lib.hid hsq
                      have HSZ := Lib.hid hsz
                      have HNG := Lib.hid hng
                      rw [hng]
                      subst h0
                      clear hBo hsq hsz hqo hS hrp hG hng B5 k0 k1 k2 k3 k4 k5 k6 ltK
                      go_wp2_with fail
                      refine HRP.out.mono ?_
                      rintro e w2 ⟨rfl, S2⟩
                      have S2 : St (fun _ => False) w (stars ([box wr.heap.size 39 #[.slice t.pA t.pl.length t.pc, .bool t.tk, .bool t.gv, .bool t.rp, .int .i64 t.wh, .int .i64 t.wn, .int .i64 t.n]] ++ BtL g gq gd xs q z P T G A1 A2 A3 A4 c1 c2 c3 c4)) w2 := S2
                      have um : min (1 : Int) 0 = 0 := by omega
                      clear HRP
                      rcases Nat.eq_zero_or_pos c3 with hz3 | hz3
                      · have hz3b := Lib.hid hz3
                        rcases Nat.eq_zero_or_pos c4 with hz4 | hz4
                        · have hz4b := Lib.hid hz4
                          have S2 := Lib.hid S2
                          go_wp2_with fail
                          go_meet
                          case rel => exact ⟨G, A3, A4, c3, c4, by rw [HNG.out, hz3b.out], by rw [HNG.out, hz4b.out], xs, q, z, b, HBO.out, HSQ.out, HSZ.out, S2.out⟩
                        · have hz4b := Lib.hid hz4
                          have hz4c : ¬ c4 = 0 := by omega
                          obtain ⟨b4, o4, rfl⟩ := S2.rowcAddr 5 (by simp [BtL]) rfl hz4
                          have S2 := Lib.hid S2
                          go_wp2_with fail
                          go_meet
                          case rel => exact ⟨G, A3, some ⟨b4, o4, none⟩, c3, c4, by rw [HNG.out, hz3b.out], by rw [HNG.out], xs, q, z, b, HBO.out, HSQ.out, HSZ.out, S2.out⟩
                      · have hz3b := Lib.hid hz3
                        have hz3c : ¬ c3 = 0 := by omega
                        obtain ⟨b3, o3, rfl⟩ := S2.rowcAddr 4 (by simp [BtL]) rfl hz3
                        rcases Nat.eq_zero_or_pos c4 with hz4 | hz4
                        · have hz4b := Lib.hid hz4
                          have S2 := Lib.hid S2
                          go_wp2_with fail
                          go_meet
                          case rel => exact ⟨G, some ⟨b3, o3, none⟩, A4, c3, c4, by rw [HNG.out], by rw [HNG.out, hz4b.out], xs, q, z, b, HBO.out, HSQ.out, HSZ.out, S2.out⟩
                        · have hz4b := Lib.hid hz4
                          have hz4c : ¬ c4 = 0 := by omega
                          obtain ⟨b4, o4, rfl⟩ := S2.rowcAddr 5 (by simp [BtL]) rfl hz4
                          have S2 := Lib.hid S2
                          go_wp2_with fail
                          go_meet
                          case rel => exact ⟨G, some ⟨b3, o3, none⟩, some ⟨b4, o4, none⟩, c3, c4, by rw [HNG.out], by rw [HNG.out], xs, q, z, b, HBO.out, HSQ.out, HSZ.out, S2.out⟩
                    · obtain ⟨nt, hnt⟩ : ∃ nt, ng = nt + 1 := ⟨ng - 1, by omega⟩
                      subst hnt
                      obtain ⟨gv, G, rfl⟩ := List.exists_cons_of_length_eq_add_one hng
                      obtain ⟨hrp, hB2⟩ := hBo.reap_some
                      have HRP := Lib.hid (hS.dReap 6 7 (by omega) (by simp [BtL]) rfl rfl hqo _ hrp)
                      have hGl := (szs_le hBo).2.2.1
                      have hn2' := hBo.n2
                      have hgl : G.length = nt := by simpa using hng
                      have HB2 := Lib.hid hB2
                      have HSQ := Lib.hid (show (q.reaped gv.id).since ≤ 5 * (k + 1) from hsq)
                      have HSZ := Lib.hid hsz
                      have HGL := Lib.hid hgl
                      have HNG := Lib.hid hng
                      have gp : (0 : Int) < ((nt + 1 : Nat) : Int) := by omega
                      have gp2 : (0 : Int) < (nt : Int) + 1 := by omega
                      rw [hng]
                      clear hBo hsq hsz hqo hS hrp hB2 hGl hn2' hgl hng h0 B5 k0 k1 k2 k3 k4 k5 k6 ltK
                      go_wp2_with fail
                      refine HRP.out.mono ?_
                      rintro e w2 ⟨rfl, S2⟩
                      have S2 : St (fun _ => False) w (stars ([box wr.heap.size 39 #[.slice t.pA t.pl.length t.pc, .bool t.tk, .bool t.gv, .bool t.rp, .int .i64 t.wh, .int .i64 t.wn, .int .i64 t.n]] ++ BtL g gq gd xs (q.reaped gv.id) z P T (gv :: G) A1 A2 A3 A4 c1 c2 c3 c4)) w2 := S2
                      obtain ⟨b3, o3, rfl, hle3, hbl3, hcs3⟩ := S2.rowc 4 (by simp [BtL]) rfl (by simp)
                      obtain ⟨b4, o4, rfl, hle4, hbl4, hcs4⟩ := S2.rowc 5 (by simp [BtL]) rfl (by simp)
                      have y3 := hcs3 0 _ rfl
                      have y4 := hcs4 0 _ rfl
                      rw [Nat.add_zero] at y3 y4
                      have S2 : St (fun _ => False) w (stars ([box wr.heap.size 39 #[.slice t.pA t.pl.length t.pc, .bool t.tk, .bool t.gv, .bool t.rp, .int .i64 t.wh, .int .i64 t.wn, .int .i64 t.n]] ++ BtL g gq gd xs (q.reaped gv.id) z P T (gv :: G) A1 A2 (some ⟨b3, o3, none⟩) (some ⟨b4, o4, none⟩) c1 c2 c3 c4)) w2 := S2
                      have S2 := Lib.hid S2
                      have u0 : (0 : Int) ≤ 0 := by omega
                      have u1 : (1 : Int) ≤ ((nt + 1 : Nat) : Int) := by omega
                      have u2 : (1 : Int) ≤ (nt : Int) + 1 := by omega
                      have u3 : ((nt + 1 : Nat) : Int) ≤ (c3 : Int) := by have := HGL.out; simp only [List.length_cons] at hle3; omega
                      have u4 : (nt : Int) + 1 ≤ (c3 : Int) := by have := HGL.out; simp only [List.length_cons] at hle3; omega
                      have u5 : ((nt + 1 : Nat) : Int) ≤ (c4 : Int) := by have := HGL.out; simp only [List.length_cons] at hle4; omega
                      have u6 : (nt : Int) + 1 ≤ (c4 : Int) := by have := HGL.out; simp only [List.length_cons] at hle4; omega
                      have um : min (1 : Int) ((nt : Int) + 1) = 1 := by omega
                      clear HRP hcs3 hcs4 hle3 hle4
                      rcases Nat.eq_zero_or_pos (c3 - 1) with hz3 | hz3
                      · have hz3b := Lib.hid hz3
                        rcases Nat.eq_zero_or_pos (c4 - 1) with hz4 | hz4
                        · have hz4b := Lib.hid hz4
                          have S3 := Lib.hid (bt_reaped S2.out (some ⟨b3, o3, none⟩) (some ⟨b4, o4, none⟩) (fun h => by omega) (fun h => by omega))
                          clear S2
                          go_wp2_with fail
                          go_meet
                          case rel => exact ⟨G, some ⟨b3, o3, none⟩, some ⟨b4, o4, none⟩, c3 - 1, c4 - 1, by rw [HGL.out, hz3b.out], by rw [HGL.out, hz4b.out], xs, q.reaped gv.id, z, b + gv.k, HB2.out, HSQ.out, HSZ.out, S3.out⟩
                        · have hz4b := Lib.hid hz4
                          have hz4c : ¬ c4 - 1 = 0 := by omega
                          have S3 := Lib.hid (bt_reaped S2.out (some ⟨b3, o3, none⟩) (some ⟨b4, o4 + 1, none⟩) (fun h => by omega) (fun _ => rfl))
                          clear S2
                          go_wp2_with fail
                          go_meet
                          case rel => exact ⟨G, some ⟨b3, o3, none⟩, some ⟨b4, o4 + 1, none⟩, c3 - 1, c4 - 1, by rw [HGL.out, hz3b.out], by rw [HGL.out], xs, q.reaped gv.id, z, b + gv.k, HB2.out, HSQ.out, HSZ.out, S3.out⟩
                      · have hz3b := Lib.hid hz3
                        have hz3c : ¬ c3 - 1 = 0 := by omega
                        rcases Nat.eq_zero_or_pos (c4 - 1) with hz4 | hz4
                        · have hz4b := Lib.hid hz4
                          have S3 := Lib.hid (bt_reaped S2.out (some ⟨b3, o3 + 1, none⟩) (some ⟨b4, o4, none⟩) (fun _ => rfl) (fun h => by omega))
                          clear S2
                          go_wp2_with fail
                          go_meet
                          case rel => exact ⟨G, some ⟨b3, o3 + 1, none⟩, some ⟨b4, o4, none⟩, c3 - 1, c4 - 1, by rw [HGL.out], by rw [HGL.out, hz4b.out], xs, q.reaped gv.id, z, b + gv.k, HB2.out, HSQ.out, HSZ.out, S3.out⟩
                        · have hz4b := Lib.hid hz4
                          have hz4c : ¬ c4 - 1 = 0 := by omega
                          have S3 := Lib.hid (bt_reaped S2.out (some ⟨b3, o3 + 1, none⟩) (some ⟨b4, o4 + 1, none⟩) (fun _ => rfl) (fun _ => rfl))
                          clear S2
                          go_wp2_with fail
                          go_meet
                          case rel => exact ⟨G, some ⟨b3, o3 + 1, none⟩, some ⟨b4, o4 + 1, none⟩, c3 - 1, c4 - 1, by rw [HGL.out], by rw [HGL.out], xs, q.reaped gv.id, z, b + gv.k, HB2.out, HSQ.out, HSZ.out, S3.out⟩
              case rest =>
                obtain ⟨G, A3, A4, c3, c4, rfl, rfl, B6⟩ := hcut
                clear B5 k0 k1 k2 k3 k4 k5 k6 ltK
                obtain ⟨xs, q, z, b, hBo, hsq, hsz, hS⟩ := B6
                have hln := szs_le hBo
                rw [List.length_map, List.length_map] at hln
                have hhl := hBo.held
                rw [List.length_map, List.length_map] at hhl
                have hn2' := hBo.n2
                have hho := hBo.qok.hl
                have hho2 := hBo.qok.s2
                have HHO : q.hs.length ≤ 32768 := by omega
                have hzb := hBo.zbr
                have H1 := hS.dvBroken 8 (by simp [BtL]) rfl
                rw [hzb] at H1
                have H2 := hS.dHeld 7 (by simp [BtL]) rfl HHO
                unfold HeldP at H2
                obtain ⟨M, hM⟩ : ∃ M, (heldL q.hs).length = M := ⟨_, rfl⟩
                rw [hM] at H2 hhl
                obtain ⟨np, hnp⟩ : ∃ x, P.length = x := ⟨_, rfl⟩
                obtain ⟨nt, hnt⟩ : ∃ x, T.length = x := ⟨_, rfl⟩
                obtain ⟨ng, hng⟩ : ∃ x, G.length = x := ⟨_, rfl⟩
                rw [hnp, hnt, hng] at hhl hln
                have v1 : IntKind.i64.wrap ((np : Int) + (nt : Int)) = (np : Int) + (nt : Int) := IntWalk.i64_in _ (by omega)
                have v2 : IntKind.i64.wrap ((np : Int) + (nt : Int) + (ng : Int)) = (M : Int) := by rw [IntWalk.i64_in _ (by omega)]; omega
                have v3 : ((M : Int) != (M : Int)) = false := by simp
                have H1 := Lib.hid H1
                have H2 := Lib.hid H2
                have HBO := Lib.hid hBo
                have HSQ := Lib.hid hsq
                have HSZ := Lib.hid hsz
                have HS := Lib.hid hS
                have HNP := Lib.hid hnp
                have HNT := Lib.hid hnt
                have HNG := Lib.hid hng
                rw [hnp, hnt, hng]
                clear hBo hsq hsz hS hln hhl hn2' hho hho2 HHO hzb hM hnp hnt hng
                go_wp2_with fail
                refine H1.out.mono ?_
                rintro e wx ⟨rfl, rfl⟩
                go_wp2_with fail
                refine H2.out.mono ?_
                rintro e w9 ⟨A9, cap9, rfl, -, hb9⟩
                have S9 := Lib.hid (St.pop (HS.out.below hb9))
                clear H1 H2 HS hb9
                go_wp2_with fail
                go_roundw
                case rel =>
                  have h2 := L2.out
                  exact ⟨k + 1, P, T, G, A1, A2, A3, A4, c1, c2, c3, c4, by omega, by go_num, by rw [HNP.out], by rw [HNT.out], by rw [HNG.out], by rw [HNG.out], xs, q, z, b, HBO.out, HSQ.out, HSZ.out, S9.out⟩
                case measure =>
                  have h2 := L2.out
                  simp [RowKit.intOf]; omega
    · obtain ⟨xs, q, z, b, hBo, hsq, hsz, hS⟩ := hS
      have hln := szs_le hBo
      rw [List.length_map, List.length_map] at hln
      have hn2' := hBo.n2
      obtain ⟨F, hAF, hd, hbk⟩ := St.suffix [rowC 3 (.slice A1 P.length c1) P.length (ceCells P), ptsA P, rowC 3 (.slice A2 T.length c2) T.length (ceCells T), rowC 1 (.slice A3 G.length c3) G.length (idsV G), rowC 1 (.slice A4 G.length c4) G.length (wrsV G)] [memA g xs, drvA gq g q, devA gd g z] hS
      obtain ⟨M, hM⟩ : ∃ M, P.length + T.length + G.length = M := ⟨_, rfl⟩
      have HDR := drained_v (n := n) (gl := G.length) (s := 64 * k) (cap := c2) (m := M) (T := T) (A := A2) ⟨xs, q, z, G, b, hBo, rfl, hsz, St.start hAF⟩ hn2' (by rw [List.length_map]; exact hM) (by omega) (fun h0 => by
        obtain ⟨F2, h2, hd2⟩ := hd
        obtain ⟨b2, off2, hA2, -, hbl2, hcs2⟩ := hS.rowc 2 (by simp [BtL]) rfl h0
        subst hA2
        exact ⟨b2, off2, rfl, hbl2, fun e => hd2 b2 e (stars_hasRowC _ 2 (by simp) rfl h0 h2), hcs2⟩)
      obtain ⟨np, hnp⟩ : ∃ x, P.length = x := ⟨_, rfl⟩
      obtain ⟨nt, hnt⟩ : ∃ x, T.length = x := ⟨_, rfl⟩
      obtain ⟨ng, hng⟩ : ∃ x, G.length = x := ⟨_, rfl⟩
      rw [hnp, hnt, hng] at hln hM
      rw [hnt] at HDR
      have v1 : IntKind.i64.wrap ((np : Int) + (nt : Int)) = (np : Int) + (nt : Int) := IntWalk.i64_in _ (by omega)
      have v2 : IntKind.i64.wrap ((np : Int) + (nt : Int) + (ng : Int)) = (M : Int) := by rw [IntWalk.i64_in _ (by omega)]; omega
      have HDR := Lib.hid HDR
      have HBK := Lib.hid hbk
      rw [hnp, hnt, hng]
      clear hBo hsq hsz hS hln hn2' hAF hd hbk hM hnp hnt hng
      by_cases l1 : k < m
      · have l3 : (k : Int) < (m : Int) := by omega
        have l4 : ¬ (k : Int) < 100 := by omega
        clear hlt
        go_wp2_with fail
        refine HDR.out.mono ?_
        rintro e w2 ⟨rfl, B, hs2⟩
        have HE := Lib.hid (HBK.out _ _ hs2)
        clear hs2 HDR HBK
        go_wp2_with fail
        refine (HF.out _).mono ?_
        rintro e w3 ⟨rfl, hb3⟩
        have HL := Lib.hid (HE.out.below hb3).law
        clear HE hb3
        go_wp2_with fail
        go_ret
        exact ⟨rfl, HL.out⟩
      · have l3 : ¬ (k : Int) < (m : Int) := by omega
        clear hlt
        go_wp2_with fail
        refine HDR.out.mono ?_
        rintro e w2 ⟨rfl, B, hs2⟩
        have HE := Lib.hid (HBK.out _ _ hs2)
        clear hs2 HDR HBK
        go_wp2_with fail
        refine (HF.out _).mono ?_
        rintro e w3 ⟨rfl, hb3⟩
        have HL := Lib.hid (HE.out.below hb3).law
        clear HE hb3
        go_wp2_with fail
        go_ret
        exact ⟨rfl, HL.out⟩
end Go.Proofs.Ytbpgblmhacpjlaa
namespace Go.Proofs.Ytbpgblmhacpjlaa
open Go.Joins Go.ChangeShapes Go.WideShapes Go.ChangeAt Go.RowKit Go.Deep
open Go.ChangeMaps (open_string)


set_option maxRecDepth 100000 in
theorem drvqBoth_lifted (os : Os) (started : os.Started) (H : Type) (enc : TypeId × Value → H) :
    ReturnsInHanded {} Try.checked os 3 .any (Rows.drvqBothSpec.pre6 enc Try.prog Try.f3 Rows.drvqBothRow.domain false) (Rows.drvqBothSpec.post enc Try.prog Try.f3 false true false false) := by
  have e : Try.f3.params.toList = [3, 22] := by rw [Try.params3]
  refine law_of_walk (C := Try.checked) (tb := 4) H enc Try.own started (by kernel_rfl) Try.func3 Try.laidOut rfl rfl Try.underlying4 ?_ ?_
    (ChangeSpec.witness6 (enc := enc) (C := Try.checked) false ⟨#[], #[.int .i64 0, .slice none 0 0], []⟩ 8 (by kernel_rfl) (by kernel_rfl) (by kernel_rfl) (by kernel_rfl)) ?_
  · rw [e]
    intro t ht
    simp only [List.mem_cons, List.not_mem_nil, or_false] at ht
    rcases ht with rfl | rfl <;> exact ⟨by kernel_rfl, of_decide_eq_true (by kernel_rfl)⟩
  · intro ds hds
    rw [e] at hds
    match ds, hds with
    | [d0, d1], _ => rfl
  · intro W base args ds p hval0 hA0 hsz0
    have hval : ∀ (j : Nat) t v, Try.f3.params[j]? = some t → args[j]? = some v → Value.okWide Try.prog W .any base t v := hval0
    have hA : DataW.TrodAll enc Try.prog W 0 (fun _ => true) true Try.f3.params.toList args.toList ds p := hA0
    have hsz : (DataW.weightsEach Try.prog Try.f3.params.toList ds).all (· ≤ reachBytes) = true := hsz0
    rw [Try.params3] at hA hval hsz
    obtain ⟨v0, v1, d0, d1, p0, p1, rfl, rfl, rfl, h0, h1⟩ := trodAll_two hA
    obtain ⟨i0, rfl, rfl, rfl, _⟩ := open_int Try.underlying3 (hval 0 3 v0 rfl rfl) h0
    obtain ⟨A1, n1, c1, rfl⟩ := okWide_slice Try.underlying22 (hval 1 22 v1 rfl rfl)
    obtain ⟨hA1, hn1⟩ := turns_at h1
    exact both_all i0 A1 n1 c1 W hA1

theorem drvqBoth_holds : Rows.DrvqBothSaid :=
  OpenClaim.holds_of_wide 3 Try.f3 rfl rfl rfl rfl rfl rfl rfl ⟨rfl, rfl, rfl, rfl, rfl⟩ rfl rfl rfl rfl rfl (by kernel_rfl) Try.func3 (by kernel_rfl)
    (of_decide_eq_true (by kernel_rfl)) (by unfold Func.isWrapper; first | (rw [if_pos (by decide +kernel)]; kernel_rfl) | (rw [if_neg (by decide +kernel)]; exact ⟨rfl, rfl⟩))
    (fun os started H enc _ => drvqBoth_lifted os started H enc)
end Go.Proofs.Ytbpgblmhacpjlaa
