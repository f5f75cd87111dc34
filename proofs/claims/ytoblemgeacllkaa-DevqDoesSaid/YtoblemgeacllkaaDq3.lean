/-
  table, naming: the descriptors that name a chain's parts, or that its table may not be.
-/
import Derived.Test.YtoblemgeacllkaaDq2
namespace Go.Proofs.Ytoblemgeacllkaa
open Go.RowKit

/-- what table, naming, answer -/
def ListP (c : Ctx) (w : World) (V : Option (List De)) (e : Ending) (w' : World) : Prop :=
  Rm c w w' ∧ match V with
  | none => Bad e
  | some l => ∃ A cap, e = .returned (.slice A l.length cap) ∧ w'.ownsRow w.heap.size 35 4 (.slice A l.length cap) l.length (desCells l)
def tabP (xs : List UInt8) (a k : Nat) : List De := (List.range k).map fun i => deAt xs (a + 16 * i)
theorem tabP_length (xs : List UInt8) (a k : Nat) : (tabP xs a k).length = k := by simp [tabP]
theorem tabP_succ (xs : List UInt8) (a k : Nat) : tabP xs a (k + 1) = tabP xs a k ++ [deAt xs (a + 16 * k)] := by simp [tabP, List.range_succ]
theorem tab_bad {xs : List UInt8} {d : De} (h : tabOk xs d = false) : ¬ (0 < d.n ∧ d.n % 16 = 0 ∧ d.n ≤ 1024 ∧ d.a + d.n ≤ xs.length) := by
  unfold tabOk at h
  simpa using h
set_option maxRecDepth 100000 in
set_option maxHeartbeats 1600000 in
theorem table_bad {c : Ctx} {wE w : World} (h : Rm c wE w) (d : De) (hd : d.Ok) (hb : tabOk c.xs d = false) :
    Calls Try.prog 100 #[.pointer (some ⟨c.gq, 0, none⟩), d.v] w (fun e w' => Rm c w w' ∧ Bad e) := by
  have hno := tab_bad hb
  have HE := Lib.hid h.enter
  have HP := fun W => place_any d hd W
  obtain ⟨lv1, hM1⟩ := h.get
  have hx := hM1.len
  have hmp := may_place hx d hd
  obtain ⟨p0, -⟩ := h.cells
  have hlt := h.lt
  have hne := Nat.ne_of_lt hlt
  have hn := hd.n
  unfold De.v at HP ⊢
  have HM := Lib.hid (fun W (h : Rm c W W) => h.may (plA d) (d.n : Int) (by omega))
  generalize plA d = P at *
  obtain ⟨n, en⟩ : ∃ n, d.n = n := ⟨_, rfl⟩
  rw [en] at HP HM hmp hno hn ⊢
  have HP := Lib.hid HP
  have HB := Lib.hid hmp
  clear h hb hM1 hx hmp en hd
  by_cases k1 : 0 < n
  · have q1 : (0 : Int) < (n : Int) := by omega
    by_cases k2 : n % 16 = 0
    · have q2 : (((n : Int) % 16) == 0) = true := by simp; omega
      by_cases k3 : n ≤ 1024
      · have q3 : (n : Int) ≤ 1024 := by omega
        have k4 : decide (d.a + n ≤ c.xs.length) = false := decide_eq_false (by omega)
        rw [HB.out, k4] at HM
        clear k1 k2 k3 k4 hno hn
        go_enter Try.func100, Try.ntmps100
        go_wp2_with (first
          | (go_at_call 99; ((with_reducible refine (HP.out _).mono ?_); rintro e w1 ⟨rfl, hq⟩; have R1 := (HE.out.alloc (.cells #[.int .u64 (d.a : Int), .int .u32 (n : Int), .int .i64 (d.id : Int), .int .i64 (d.f : Int)] 35)).below hq; obtain ⟨p0, -⟩ := R1.cells; have R1 := Lib.hid R1))
          | (go_at_call 38; ((with_reducible refine (HM.out _ R1.out.enter).mono ?_); rintro e w2 ⟨rfl, rfl⟩))
          | (go_at_call 98; ((with_reducible refine (req_no _).mono ?_); rintro e w3 ⟨he, rfl⟩; unfold Bad at he; subst he)))
        exact ⟨rfl, R1.out, rfl⟩
      · have q3 : (1024 : Int) < (n : Int) := by omega
        clear k1 k2 k3 hno hn
        go_enter Try.func100, Try.ntmps100
        go_wp2_with (first
          | (go_at_call 99; ((with_reducible refine (HP.out _).mono ?_); rintro e w1 ⟨rfl, hq⟩; have R1 := (HE.out.alloc (.cells #[.int .u64 (d.a : Int), .int .u32 (n : Int), .int .i64 (d.id : Int), .int .i64 (d.f : Int)] 35)).below hq; obtain ⟨p0, -⟩ := R1.cells; have R1 := Lib.hid R1))
          | (go_at_call 38; ((with_reducible refine (HM.out _ R1.out.enter).mono ?_); rintro e w2 ⟨rfl, rfl⟩))
          | (go_at_call 98; ((with_reducible refine (req_no _).mono ?_); rintro e w3 ⟨he, rfl⟩; unfold Bad at he; subst he)))
        exact ⟨rfl, R1.out, rfl⟩
    · have q2 : (((n : Int) % 16) == 0) = false := by simp; omega
      clear k1 k2 hno hn
      go_enter Try.func100, Try.ntmps100
      go_wp2_with (first
        | (go_at_call 99; ((with_reducible refine (HP.out _).mono ?_); rintro e w1 ⟨rfl, hq⟩; have R1 := (HE.out.alloc (.cells #[.int .u64 (d.a : Int), .int .u32 (n : Int), .int .i64 (d.id : Int), .int .i64 (d.f : Int)] 35)).below hq; obtain ⟨p0, -⟩ := R1.cells; have R1 := Lib.hid R1))
        | (go_at_call 38; ((with_reducible refine (HM.out _ R1.out.enter).mono ?_); rintro e w2 ⟨rfl, rfl⟩))
        | (go_at_call 98; ((with_reducible refine (req_no _).mono ?_); rintro e w3 ⟨he, rfl⟩; unfold Bad at he; subst he)))
      exact ⟨rfl, R1.out, rfl⟩
  · obtain rfl : n = 0 := by omega
    clear k1 hno hn
    have q1 : ((0 : Nat) : Int) = 0 := rfl
    rw [q1] at HP HM ⊢
    go_enter Try.func100, Try.ntmps100
    go_wp2_with (first
      | (go_at_call 99; ((with_reducible refine (HP.out _).mono ?_); rintro e w1 ⟨rfl, hq⟩; have R1 := (HE.out.alloc (.cells #[.int .u64 (d.a : Int), .int .u32 0, .int .i64 (d.id : Int), .int .i64 (d.f : Int)] 35)).below hq; obtain ⟨p0, -⟩ := R1.cells; have R1 := Lib.hid R1))
      | (go_at_call 38; ((with_reducible refine (HM.out _ R1.out.enter).mono ?_); rintro e w2 ⟨rfl, rfl⟩))
      | (go_at_call 98; ((with_reducible refine (req_no _).mono ?_); rintro e w3 ⟨he, rfl⟩; unfold Bad at he; subst he)))
    exact ⟨rfl, R1.out, rfl⟩
set_option maxRecDepth 100000 in
set_option maxHeartbeats 1600000 in
theorem table_ok {c : Ctx} {wE w : World} (h : Rm c wE w) (d : De) (hd : d.Ok) (hb : tabOk c.xs d = true) :
    Calls Try.prog 100 #[.pointer (some ⟨c.gq, 0, none⟩), d.v] w (ListP c w (some (tabL c.xs d))) := by
  have hyes : 0 < d.n ∧ d.n % 16 = 0 ∧ d.n ≤ 1024 ∧ d.a + d.n ≤ c.xs.length := by unfold tabOk at hb; simpa using hb
  have HE := Lib.hid h.enter
  obtain ⟨lv1, hM1⟩ := h.get
  have hx := hM1.len
  have hp : plA d = (d.a : Int) := by unfold plA; rw [if_pos (by omega)]
  have HP := fun W => place_any d hd W
  have hmp := may_place hx d hd
  have hm : decide (d.a + d.n ≤ c.xs.length) = true := decide_eq_true hyes.2.2.2
  obtain ⟨p0, -⟩ := h.cells
  have hlt := h.lt
  have hne := Nat.ne_of_lt hlt
  obtain ⟨i0, hi, hz0, hz1, hz2⟩ := info_parts Try.info35
  have HI := Lib.hid hi
  have HZ0 := Lib.hid hz0
  have HZ1 := Lib.hid hz1
  have HZ2 := Lib.hid hz2
  clear hi hz0 hz1 hz2
  unfold De.v at HP ⊢
  have HM := fun W (h : Rm c W W) => h.may (plA d) (d.n : Int) (by omega)
  rw [hmp, hm, hp] at HM
  rw [hp] at HP
  obtain ⟨T, hT⟩ : ∃ T, d.n = 16 * T := ⟨d.n / 16, by omega⟩
  have eL : tabL c.xs d = tabP c.xs d.a T := by unfold tabL tabP; rw [hT]; congr 2; omega
  rw [eL]
  obtain ⟨n, en⟩ : ∃ n, d.n = n := ⟨_, rfl⟩
  obtain ⟨a, ea⟩ : ∃ a, d.a = a := ⟨_, rfl⟩
  rw [en] at HP HM hyes hT ⊢
  rw [ea] at HP HM hyes ⊢
  have HP := Lib.hid HP
  have HM := Lib.hid HM
  have q1 : (0 : Int) < (n : Int) := by omega
  have q2 : (((n : Int) % 16) == 0) = true := by simp; omega
  have q3 : (n : Int) ≤ 1024 := by omega
  have hT1 : T ≤ 64 := by omega
  have HT := Lib.hid hT
  have ha : a ≤ 1048576 := by omega
  have HY := Lib.hid hyes
  clear h hb hM1 hx hmp en ea hd hm hp eL hT hyes
  go_enter Try.func100, Try.ntmps100
  go_wp2_with (first
    | (go_at_call 99; ((with_reducible refine (HP.out _).mono ?_); rintro e w1 ⟨rfl, hq⟩; have R1 := (HE.out.alloc (.cells #[.int .u64 (a : Int), .int .u32 (n : Int), .int .i64 (d.id : Int), .int .i64 (d.f : Int)] 35)).below hq; obtain ⟨p0, -⟩ := R1.cells; have R1 := Lib.hid R1))
    | (go_at_call 38; ((with_reducible refine (HM.out _ R1.out.enter).mono ?_); rintro e w2 ⟨rfl, rfl⟩))
    | (go_at_call 98; ((with_reducible refine (req_yes _).mono ?_); rintro e w3 ⟨rfl, rfl⟩)))
  go_loopw [7, 8] (fun s i wr => ∃ k j : Nat, k ≤ T ∧ Hid (j = 16 * k) ∧ i = .int .i64 (j : Int) ∧ Rm c w wr ∧ wr.ownsRow w.heap.size 35 4 s k (desCells (tabP c.xs a k))) (fun s _ _ => T - lenV s)
  case atStart => exact ⟨0, 0, Nat.zero_le _, rfl, rfl, R1.out, World.ownsRow_nil _ _ _ _⟩
  case round =>
    obtain ⟨k, j, hk, hj, rfl, R, own⟩ := hrel
    obtain ⟨A, cap, rfl⟩ := own_form own
    have HO := Lib.hid own
    have RR := Lib.hid R
    clear R own
    by_cases hkT : k < T
    · have hjn : (j : Int) < (n : Int) := by have := hj.out; have := HT.out; omega
      have hjb : j ≤ 1024 := by omega
      have HX := fun W (h : Rm c W W) => desc_any h (a + j) (by have := hj.out; have := HT.out; have := HY.out; omega)
      rw [Int.natCast_add] at HX
      obtain ⟨d', ed⟩ : ∃ d', deAt c.xs (a + j) = d' := ⟨_, rfl⟩
      rw [ed] at HX
      unfold De.v at HX
      have HX := Lib.hid HX
      have Hed := Lib.hid ed
      clear ed
      go_wp2_with fail
      refine (HX.out _ RR.out.enter).mono ?_
      rintro e w5 ⟨rfl, R5⟩
      have O5 := (own_keep HO.out R5.keep (by decide) (by decide) (by decide)).alloc (.cells #[.int .u64 (d'.a : Int), .int .u32 (d'.n : Int), .int .i64 (d'.id : Int), .int .i64 (d'.f : Int)] 35)
      have R5 := (RR.out.leave R5).alloc (.cells #[.int .u64 (d'.a : Int), .int .u32 (d'.n : Int), .int .i64 (d'.id : Int), .int .i64 (d'.f : Int)] 35)
      have hnews := World.news_of_block (w := w5.alloc (.cells #[.int .u64 (d'.a : Int), .int .u32 (d'.n : Int), .int .i64 (d'.id : Int), .int .i64 (d'.f : Int)] 35)) (heap_alloc_new w5 _)
      have hbase := R5.keep.size
      have R5 := Lib.hid R5
      have O5 := Lib.hid O5
      have HW := Lib.hid hnews
      clear hnews HX RR HO
      go_wp2_with (at_builtin; refine wpList_append_lies _ rfl (.tmp 40) (.tmp 46) 118 rfl w.heap.size 35 i0 _ 4 32 Try.underlying118 HI.out HZ0.out HZ1.out HZ2.out rfl (by decide) (.slice A k cap) k (desCells (tabP c.xs a k)) rfl O5.out ⟨w5.heap.size, 0, none⟩ 1 1 (De.cells d') rfl rfl HW.out (des_one d') (by decide) (by unfold maxLen; omega) (by omega) hbase (w5.heap.size + 1) (by simp) ?_; intro g2 cap2 w6 hown hgrow hat hlt2)
      have R6 := R5.out.grown O5.out (Nat.le_refl _) hgrow (by decide) (by decide) (by decide) (by decide)
      have H6 := Lib.hid hown
      have H7 := Lib.hid R6
      clear hgrow hat hown R6
      go_roundw
      case rel =>
        refine ⟨k + 1, j + 16, by omega, by have := hj.out; show _ = _; omega, by go_num, H7.out, ?_⟩
        rw [tabP_succ, desCells_append]
        have := H6.out
        rw [← Hed.out, hj.out] at this
        simpa [desCells] using this
      case measure => simp [lenV]; omega
    · have hjn : (n : Int) ≤ (j : Int) := by have := hj.out; have := HT.out; omega
      have hjb : j ≤ 1024 := by have := hj.out; omega
      obtain rfl : k = T := by omega
      go_wp2_with fail
      go_ret
      refine ⟨RR.out, A, cap, ?_, ?_⟩
      · rw [tabP_length]; rfl
      · rw [tabP_length]; exact HO.out
theorem table_any {c : Ctx} {wE w : World} (h : Rm c wE w) (d : De) (hd : d.Ok) :
    Calls Try.prog 100 #[.pointer (some ⟨c.gq, 0, none⟩), d.v] w (ListP c w (if tabOk c.xs d then some (tabL c.xs d) else none)) := by
  cases hb : tabOk c.xs d
  · exact table_bad h d hd hb
  · exact table_ok h d hd hb
end Go.Proofs.Ytoblemgeacllkaa
