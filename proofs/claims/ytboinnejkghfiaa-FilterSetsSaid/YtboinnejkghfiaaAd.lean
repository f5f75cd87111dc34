/-
  What filter.Admits answers, for every filter and every string; no condition.
-/
import Derived.Test.YtboinnejkghfiaaCk
import Derived.Test.YtboinnejkghfiaaTagr
namespace Go.Proofs.Ytboinnejkghfiaa
open Go.RowKit

/-- is a tag's number let through? -/
def adV (F : Fl) (v : Int) : Bool := !F.vo || v == -1 || hasI F.vs v
/-- is an address taken? -/
def adD (F : Fl) (d : ByteArray) : Bool :=
  if kindV d = 3 then !F.na else if kindV d = 2 then F.am || (!F.nm && hasS F.ms d) else if kindV d = 1 then F.au || (!F.nu && (decide (d = F.mac) || hasS F.us d)) else false
/-- is a frame taken? -/
def adB (F : Fl) (s : ByteArray) : Bool := if parseE s = 0 then adV F (parseF s).v && (F.pr || adD F (parseF s).d) else false
theorem kind_cases (d : ByteArray) : kindV d = 0 ∨ kindV d = 1 ∨ kindV d = 2 ∨ kindV d = 3 := by
  unfold kindV
  split
  · simp
  · split
    · simp
    · split <;> simp
theorem vlan_any (F : Fl) (v : Int) (B : Nat) (w : World) (hF : F.At B w) (hB : B ≤ w.heap.size) (hl : F.Few) :
    Calls Try.prog 28 #[F.val, .int .i64 v] w fun e w' => e = .returned (.bool (adV F v)) ∧ Below w.heap.size w w' := by
  have A1 := fun W (hb : Below w.heap.size w W) => conI_any B F.V F.vc F.vs v W (hF.v.far hB hb) hl.v
  unfold adV
  generalize hasI F.vs v = b at *
  obtain ⟨mac, pr, au, am, nu, nm, na, U, us, uc, M, ms, mc, vo, V, vs, vc⟩ := F
  clear hF hl
  simp only at A1 ⊢
  have H1 := Lib.hid A1
  clear A1
  cases vo
  · go_enter Try.func28, Try.ntmps28
    go_wp2
    go_ret
    exact ⟨rfl, ba (b0 _) _⟩
  · by_cases hv : v = -1
    · subst hv
      go_enter Try.func28, Try.ntmps28
      go_wp2
      go_ret
      exact ⟨rfl, ba (b0 _) _⟩
    · have hq : (v == -1) = false := by simpa using hv
      rw [hq]
      go_enter Try.func28, Try.ntmps28
      go_wp2_with (go_at_call 40; ((with_reducible refine (H1.out _ (ba (b0 _) _)).mono ?_); rintro e w' ⟨rfl, rfl⟩))
      go_ret
      exact ⟨by first | rfl | simp, ba (b0 _) _⟩
set_option maxHeartbeats 1000000 in
theorem dst_any (F : Fl) (d : ByteArray) (B : Nat) (w : World) (hF : F.At B w) (hB : B ≤ w.heap.size) (hl : F.Few) :
    Calls Try.prog 29 #[F.val, .string d] w fun e w' => e = .returned (.bool (adD F d)) ∧ Below w.heap.size w w' := by
  have A1 := fun W (hb : Below w.heap.size w W) => conS_any B F.U F.uc F.us d W (hF.u.far hB hb) hl.u
  have A2 := fun W (hb : Below w.heap.size w W) => conS_any B F.M F.mc F.ms d W (hF.m.far hB hb) hl.m
  have A0 := fun W => akind_any d W
  have hk := kind_cases d
  unfold adD
  generalize hasS F.us d = b1 at *
  generalize hasS F.ms d = b2 at *
  generalize kindV d = K at *
  obtain ⟨mac, pr, au, am, nu, nm, na, U, us, uc, M, ms, mc, vo, V, vs, vc⟩ := F
  clear hF hl
  simp only at A1 A2 ⊢
  have H0 := Lib.hid A0
  have H1 := Lib.hid A1
  have H2 := Lib.hid A2
  clear A0 A1 A2
  rcases hk with rfl | rfl | rfl | rfl
  · go_enter Try.func29, Try.ntmps29
    go_wp2_with (go_at_call 21; ((with_reducible refine (H0.out _).mono ?_); rintro e w' ⟨rfl, rfl⟩))
    go_ret
    exact ⟨rfl, ba (b0 _) _⟩
  · cases au
    · cases nu
      · by_cases hd : d = mac
        · subst hd
          go_enter Try.func29, Try.ntmps29
          go_wp2_with (go_at_call 21; ((with_reducible refine (H0.out _).mono ?_); rintro e w' ⟨rfl, rfl⟩))
          go_ret
          exact ⟨by first | rfl | simp, ba (b0 _) _⟩
        · have hq := str_ne hd
          have hD : decide (d = mac) = false := decide_eq_false hd
          rw [hD]
          clear hd hD
          go_enter Try.func29, Try.ntmps29
          go_wp2_with (first | (go_at_call 21; ((with_reducible refine (H0.out _).mono ?_); rintro e w' ⟨rfl, rfl⟩)) | (go_at_call 41; ((with_reducible refine (H1.out _ (ba (b0 _) _)).mono ?_); rintro e w' ⟨rfl, rfl⟩)))
          go_ret
          exact ⟨by first | rfl | simp, ba (b0 _) _⟩
      · go_enter Try.func29, Try.ntmps29
        go_wp2_with (go_at_call 21; ((with_reducible refine (H0.out _).mono ?_); rintro e w' ⟨rfl, rfl⟩))
        go_ret
        exact ⟨by first | rfl | simp, ba (b0 _) _⟩
    · go_enter Try.func29, Try.ntmps29
      go_wp2_with (go_at_call 21; ((with_reducible refine (H0.out _).mono ?_); rintro e w' ⟨rfl, rfl⟩))
      go_ret
      exact ⟨by first | rfl | simp, ba (b0 _) _⟩
  · cases am
    · cases nm
      · go_enter Try.func29, Try.ntmps29
        go_wp2_with (first | (go_at_call 21; ((with_reducible refine (H0.out _).mono ?_); rintro e w' ⟨rfl, rfl⟩)) | (go_at_call 41; ((with_reducible refine (H2.out _ (ba (b0 _) _)).mono ?_); rintro e w' ⟨rfl, rfl⟩)))
        go_ret
        exact ⟨by first | rfl | simp, ba (b0 _) _⟩
      · go_enter Try.func29, Try.ntmps29
        go_wp2_with (go_at_call 21; ((with_reducible refine (H0.out _).mono ?_); rintro e w' ⟨rfl, rfl⟩))
        go_ret
        exact ⟨by first | rfl | simp, ba (b0 _) _⟩
    · go_enter Try.func29, Try.ntmps29
      go_wp2_with (go_at_call 21; ((with_reducible refine (H0.out _).mono ?_); rintro e w' ⟨rfl, rfl⟩))
      go_ret
      exact ⟨by first | rfl | simp, ba (b0 _) _⟩
  · go_enter Try.func29, Try.ntmps29
    go_wp2_with (go_at_call 21; ((with_reducible refine (H0.out _).mono ?_); rintro e w' ⟨rfl, rfl⟩))
    go_ret
    exact ⟨by first | rfl | simp, ba (b0 _) _⟩
theorem parse_good {s : ByteArray} (h : parseE s = 0) : (parseF s).d.size = 6 ∧ ((parseF s).v = -1 ∨ 0 ≤ (parseF s).v ∧ (parseF s).v ≤ 4094) := by
  have hf : parseF s = readF s := by rw [parseF, if_pos h]
  have hb : frameB (readF s) = true := by
    unfold parseE at h
    split at h
    · cases h
    · split at h
      · split at h
        · assumption
        · cases h
      · cases h
  rw [hf]
  rw [frameB, decide_eq_true_eq] at hb
  refine ⟨hb.1, ?_⟩
  have h3 := hb.2.2.1
  unfold tagB at h3
  split at h3
  · exact .inl ‹_›
  · rw [decide_eq_true_eq] at h3
    exact .inr ⟨h3.1, h3.2.1⟩
set_option maxHeartbeats 1000000 in
theorem adm_any (F : Fl) (s : ByteArray) (B : Nat) (w : World) (hF : F.At B w) (hB : B ≤ w.heap.size) (hl : F.Few) :
    Calls Try.prog 13 #[F.val, .string s] w fun e w' => e = .returned (.bool (adB F s)) ∧ Below w.heap.size w w' := by
  have AP := fun W => parse_any s W
  have AV := fun v W (hb : Below w.heap.size w W) => vlan_any F v B W (hF.far hB hb) (Nat.le_trans hB hb.size) hl
  have AD := fun d W (hb : Below w.heap.size w W) => dst_any F d B W (hF.far hB hb) (Nat.le_trans hB hb.size) hl
  unfold adB
  have hE := parseE_cases s
  generalize parseE s = E at *
  generalize parseF s = f at *
  obtain ⟨d, r, v, p, t, b⟩ := f
  simp only [Fr.val, ethC] at AP ⊢
  replace AV := AV v
  replace AD := AD d
  generalize adV F v = bv at *
  generalize adD F d = bd at *
  obtain ⟨mac, pr, au, am, nu, nm, na, U, us, uc, M, ms, mc, vo, V, vs, vc⟩ := F
  clear hF hl
  simp only at AV AD ⊢
  have HP := Lib.hid AP
  have HV := Lib.hid AV
  have HD := Lib.hid AD
  clear AP AV AD
  have hbad : (E != 0) = true → E ≠ 0 → Calls Try.prog 13 #[.agg #[.string mac, .bool pr, .bool au, .bool am, .bool nu, .bool nm, .bool na, .slice U us.length uc, .slice M ms.length mc, .bool vo, .slice V vs.length vc], .string s] w fun e w' => e = .returned (.bool false) ∧ Below w.heap.size w w' := by
    intro hE2 _
    clear hE
    go_enter Try.func13, Try.ntmps13
    go_wp2_with fail
    have h1 := Held.new w 25 #[.string mac, .bool pr, .bool au, .bool am, .bool nu, .bool nm, .bool na, .slice U us.length uc, .slice M ms.length mc, .bool vo, .slice V vs.length vc]
    refine (HP.out _).mono ?_
    rintro e w1 ⟨rfl, hq⟩
    have h2 := h1.next hq
    clear hq h1
    go_wp2_with fail
    go_ret
    exact ⟨rfl, ba h2.below _⟩
  rcases hE with rfl | rfl | rfl
  · clear hbad
    rw [if_pos rfl]
    cases bv
    · go_enter Try.func13, Try.ntmps13
      go_wp2_with fail
      have h1 := Held.new w 25 #[.string mac, .bool pr, .bool au, .bool am, .bool nu, .bool nm, .bool na, .slice U us.length uc, .slice M ms.length mc, .bool vo, .slice V vs.length vc]
      refine (HP.out _).mono ?_
      rintro e w1 ⟨rfl, hq⟩
      have h2 := h1.next hq
      clear hq h1
      have c0 := h2.blk.cell 0
      have c1 := h2.blk.cell 1
      have c2 := h2.blk.cell 2
      have c3 := h2.blk.cell 3
      have c4 := h2.blk.cell 4
      have c5 := h2.blk.cell 5
      have c6 := h2.blk.cell 6
      have c7 := h2.blk.cell 7
      have c8 := h2.blk.cell 8
      have c9 := h2.blk.cell 9
      have c10 := h2.blk.cell 10
      simp only [List.getElem?_toArray, List.getElem?_cons_zero, List.getElem?_cons_succ] at c0 c1 c2 c3 c4 c5 c6 c7 c8 c9 c10
      have hlt := h2.blk.lt
      go_wp2_with fail
      refine (HV.out _ (ba h2.below _)).mono ?_
      rintro e w2 ⟨rfl, hq⟩
      have h3 := bt2 (ba h2.below _) hq
      have h4 := h2.blk.alloc (.cells #[.string d, .string r, .int .i64 v, .int .i64 p, .int .i64 t, .string b] 49)
      have h5 := h4.same (hq.block _ h4.lt)
      have d1 := h5.cell 1
      simp only [List.getElem?_toArray, List.getElem?_cons_zero, List.getElem?_cons_succ] at d1
      clear hq
      go_wp2_with fail
      go_ret
      exact ⟨rfl, h3⟩
    · cases pr
      · go_enter Try.func13, Try.ntmps13
        go_wp2_with fail
        have h1 := Held.new w 25 #[.string mac, .bool false, .bool au, .bool am, .bool nu, .bool nm, .bool na, .slice U us.length uc, .slice M ms.length mc, .bool vo, .slice V vs.length vc]
        refine (HP.out _).mono ?_
        rintro e w1 ⟨rfl, hq⟩
        have h2 := h1.next hq
        clear hq h1
        have c0 := h2.blk.cell 0
        have c1 := h2.blk.cell 1
        have c2 := h2.blk.cell 2
        have c3 := h2.blk.cell 3
        have c4 := h2.blk.cell 4
        have c5 := h2.blk.cell 5
        have c6 := h2.blk.cell 6
        have c7 := h2.blk.cell 7
        have c8 := h2.blk.cell 8
        have c9 := h2.blk.cell 9
        have c10 := h2.blk.cell 10
        simp only [List.getElem?_toArray, List.getElem?_cons_zero, List.getElem?_cons_succ] at c0 c1 c2 c3 c4 c5 c6 c7 c8 c9 c10
        have hlt := h2.blk.lt
        go_wp2_with fail
        refine (HV.out _ (ba h2.below _)).mono ?_
        rintro e w2 ⟨rfl, hq⟩
        have h3 := bt2 (ba h2.below _) hq
        have h4 := h2.blk.alloc (.cells #[.string d, .string r, .int .i64 v, .int .i64 p, .int .i64 t, .string b] 49)
        have h5 := h4.same (hq.block _ h4.lt)
        have g4 := Blk.new w1 49 #[.string d, .string r, .int .i64 v, .int .i64 p, .int .i64 t, .string b]
        have g5 := g4.same (hq.block _ g4.lt)
        have e0 := g5.cell 0
        have d0 := h5.cell 0
        have d1 := h5.cell 1
        have d2 := h5.cell 2
        have d3 := h5.cell 3
        have d4 := h5.cell 4
        have d5 := h5.cell 5
        have d6 := h5.cell 6
        have d7 := h5.cell 7
        have d8 := h5.cell 8
        have d9 := h5.cell 9
        have d10 := h5.cell 10
        simp only [List.getElem?_toArray, List.getElem?_cons_zero, List.getElem?_cons_succ] at e0 d0 d1 d2 d3 d4 d5 d6 d7 d8 d9 d10
        clear hq c0 c1 c2 c3 c4 c5 c6 c7 c8 c9 c10
        go_wp2_with fail
        refine (HD.out _ h3).mono ?_
        rintro e w3 ⟨rfl, hq⟩
        go_wp2_with fail
        go_ret
        exact ⟨by first | rfl | simp, bt2 h3 hq⟩
      · go_enter Try.func13, Try.ntmps13
        go_wp2_with fail
        have h1 := Held.new w 25 #[.string mac, .bool true, .bool au, .bool am, .bool nu, .bool nm, .bool na, .slice U us.length uc, .slice M ms.length mc, .bool vo, .slice V vs.length vc]
        refine (HP.out _).mono ?_
        rintro e w1 ⟨rfl, hq⟩
        have h2 := h1.next hq
        clear hq h1
        have c0 := h2.blk.cell 0
        have c1 := h2.blk.cell 1
        have c2 := h2.blk.cell 2
        have c3 := h2.blk.cell 3
        have c4 := h2.blk.cell 4
        have c5 := h2.blk.cell 5
        have c6 := h2.blk.cell 6
        have c7 := h2.blk.cell 7
        have c8 := h2.blk.cell 8
        have c9 := h2.blk.cell 9
        have c10 := h2.blk.cell 10
        simp only [List.getElem?_toArray, List.getElem?_cons_zero, List.getElem?_cons_succ] at c0 c1 c2 c3 c4 c5 c6 c7 c8 c9 c10
        have hlt := h2.blk.lt
        go_wp2_with fail
        refine (HV.out _ (ba h2.below _)).mono ?_
        rintro e w2 ⟨rfl, hq⟩
        have h3 := bt2 (ba h2.below _) hq
        have h4 := h2.blk.alloc (.cells #[.string d, .string r, .int .i64 v, .int .i64 p, .int .i64 t, .string b] 49)
        have h5 := h4.same (hq.block _ h4.lt)
        have d1 := h5.cell 1
        simp only [List.getElem?_toArray, List.getElem?_cons_zero, List.getElem?_cons_succ] at d1
        clear hq
        go_wp2_with fail
        go_ret
        exact ⟨rfl, h3⟩
  · rw [if_neg (by decide)]
    exact hbad rfl (by decide)
  · rw [if_neg (by decide)]
    exact hbad rfl (by decide)
end Go.Proofs.Ytboinnejkghfiaa
