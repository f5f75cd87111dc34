/-
  What addr.Parse answers: for every string.
-/
import Derived.Test.YthknggabioadhaaPort
import Derived.Deep.RegionHeld3
namespace Go.Proofs.Ythknggabioadhaa
open Go.RowKit

/-- A row of l.length bytes at block B, the first k of which are l's. -/
def Fill (B : Nat) (l : List UInt8) (k : Nat) (w0 wr : World) : Prop :=
  ∃ xs : List UInt8, xs.length = l.length ∧ (∀ j, j < k → xs[j]? = l[j]?) ∧ Grow B B l.length l.length xs w0 wr
theorem Fill.start {l : List UInt8} {n : Nat} {w w1 : World} (hn : l.length = n)
    (h : w1.ownsRow w.heap.size 5 1 (.slice (some ⟨w.heap.size, 0, none⟩) n n) n (madeCells (Value.cells (.int .u8 0)) (n * 1)).toList) (hg : w.grownBy w1 none) :
    Fill w.heap.size l 0 w w1 := by
  have e : (madeCells (Value.cells (.int .u8 0)) (n * 1)).toList = (List.replicate n (0 : UInt8)).map byteV := by
    rw [Nat.mul_one, List.map_replicate]; exact toList_madeCells_one _ n
  rw [e] at h
  subst hn
  exact ⟨List.replicate l.length 0, by simp, fun _ h => by omega, by simp, h, (Below.refl _ _).grown hg (Nat.le_refl _) (by simp), hg.size⟩
theorem Fill.cell {B k : Nat} {l : List UInt8} {w0 wr : World} (h : Fill B l k w0 wr) (j : Nat) (hj : j < l.length) : ∃ u : Int, wr.cell? ⟨B, j, none⟩ = some (.int .u8 u) := by
  obtain ⟨xs, h1, h2, h3⟩ := h
  exact ⟨_, h3.cell j (by omega)⟩
theorem Fill.free {B k : Nat} {l : List UInt8} {w0 wr : World} (h : Fill B l k w0 wr) (j : Nat) : wr.frozen? ⟨B, j, none⟩ = false := by
  obtain ⟨xs, h1, h2, h3⟩ := h
  exact World.ownsRow.frozenAt h3.2.1 j
theorem Fill.step {B k : Nat} {l : List UInt8} {w0 wr : World} (h : Fill B l k w0 wr) (hk : k < l.length) :
    Fill B l (k + 1) w0 (wr.setCell ⟨B, k, none⟩ (byteV l[k])) := by
  obtain ⟨xs, h1, h2, h3⟩ := h
  refine ⟨xs.set k l[k], by simp [h1], ?_, by simp [h1], ?_, h3.below.setCell (Nat.le_refl _) _, by have := h3.2.2.2; simpa [World.setCell] using this⟩
  · intro i hi
    rw [List.getElem?_set]
    by_cases e : k = i
    · subst e
      simp [h1, hk]
    · rw [if_neg e]
      exact h2 i (by omega)
  · rw [List.map_set]
    exact (World.ownsRow.stored h3.2.1 k (byteV l[k])).1
theorem Fill.text {B k : Nat} {l : List UInt8} {w0 wr : World} (h : Fill B l k w0 wr) (hk : l.length = k) :
    (convert 33 9 (.slice (some ⟨B, 0, none⟩) k k)).run Try.prog wr = .ok (.string ⟨l.toArray⟩) wr := by
  obtain ⟨xs, h1, h2, h3⟩ := h
  subst hk
  have e : xs = l := by
    apply List.ext_getElem?
    intro j
    by_cases hj : j < l.length
    · exact h2 j hj
    · rw [List.getElem?_eq_none (by omega), List.getElem?_eq_none (by omega)]
  subst e
  exact h3.text
theorem Fill.below {B k : Nat} {l : List UInt8} {w0 wr : World} (h : Fill B l k w0 wr) : Below B w0 wr := by
  obtain ⟨xs, h1, h2, h3⟩ := h
  exact h3.below
theorem own_same {w w' : World} {base : Nat} {e : TypeId} {size n : Nat} {v : Value} {xs : List Value} (h : w.ownsRow base e size v n xs) (hb : ∀ k, v.ownBlock = some k → w'.heap[k]? = w.heap[k]?) : w'.ownsRow base e size v n xs := by
  refine ⟨h.1, ?_⟩
  rcases h.2 with hn | ⟨g, cap, cur, rfl, h1, hgg, rest⟩
  · exact .inl hn
  · exact .inr ⟨g, cap, cur, rfl, h1, (hb g rfl).trans hgg, rest⟩
/-- what makes memory of its own leaves the row -/
theorem Fill.kept {B k : Nat} {l : List UInt8} {w0 wr w2 : World} (h : Fill B l k w0 wr) (hb : Below wr.heap.size wr w2) : Fill B l k w0 w2 := by
  obtain ⟨xs, h1, h2, h3, h4, h5, h6⟩ := h
  have hz := hb.size
  refine ⟨xs, h1, h2, h3, own_same h4 (fun g hg => hb.block g ?_), h5.trans (hb.mono h6), by omega⟩
  rcases h4.2 with hn | ⟨g', cap, cur, e, _, hgg, _⟩
  · simp at hn
  · rw [e] at hg
    have : g' = g := by simpa [Value.ownBlock] using hg
    subst this
    exact (Array.getElem?_eq_some_iff.1 hgg).1

theorem Fill.room {B k : Nat} {l : List UInt8} {w0 wr : World} (h : Fill B l k w0 wr) : B ≤ wr.heap.size := by
  obtain ⟨xs, h1, h2, h3⟩ := h
  exact h3.2.2.2
theorem parse_bad (s : ByteArray) (k : Nat) (hk : k < 6) (h : good1 s k = false) : parseS s = ⟨#[]⟩ ∧ parseE s = 50 := by
  have e := goodB_not s k 6 h hk
  exact ⟨if_neg (by rw [e]; simp), if_neg (by rw [e]; simp)⟩
theorem six_get (f : Nat → UInt8) (k : Nat) (hk : k < 6) : ∀ h : k < (six f).length, (six f)[k]'h = f k := by
  match k, hk with
  | 0, _ => exact fun _ => rfl
  | 1, _ => exact fun _ => rfl
  | 2, _ => exact fun _ => rfl
  | 3, _ => exact fun _ => rfl
  | 4, _ => exact fun _ => rfl
  | 5, _ => exact fun _ => rfl
theorem Fill.next {B k N : Nat} {f : Nat → UInt8} {w0 wr : World} (h : Fill B (six f) k w0 wr) (hk : k < 6) (hN : N < 256) (e : f k = UInt8.ofNat N) :
    Fill B (six f) (k + 1) w0 (wr.setCell ⟨B, k, none⟩ (.int .u8 (N : Int))) := by
  have h1 := h.step (show k < (six f).length from hk)
  rw [six_get f k hk, e] at h1
  have e2 : byteV (UInt8.ofNat N) = .int .u8 (N : Int) := by
    unfold byteV
    rw [UInt8.toNat_ofNat', Nat.mod_eq_of_lt (by omega)]
  rw [e2] at h1
  exact h1
theorem shl_or (x y : Nat) (hx : x < 16) (hy : y < 16) : bits .or .i64 ((x : Int) * 16) (y : Int) = ((16 * x + y : Nat) : Int) := by
  have h : ∀ a b : Fin 16, bits .or .i64 ((a.val : Int) * 16) (b.val : Int) = ((16 * a.val + b.val : Nat) : Int) := by decide +kernel
  exact h ⟨x, hx⟩ ⟨y, hy⟩

theorem good1_eq (s : ByteArray) (k : Nat) (hs : s.size = 17) (hk : k < 6) : good1 s k = (decide (0 ≤ hexV (s[3 * k]'(by omega)).toNat) && decide (0 ≤ hexV (s[3 * k + 1]'(by omega)).toNat) && (decide (k = 5) || decide (bt s (3 * k + 2) = 58))) := by
  rw [good1, bt_in s (3 * k) (by omega), bt_in s (3 * k + 1) (by omega)]
theorem macB_eq (s : ByteArray) (k : Nat) (hs : s.size = 17) (hk : k < 6) : macB s k = UInt8.ofNat (16 * (hexV (s[3 * k]'(by omega)).toNat).toNat + (hexV (s[3 * k + 1]'(by omega)).toNat).toNat) := by
  rw [macB, bt_in s (3 * k) (by omega), bt_in s (3 * k + 1) (by omega)]
set_option maxRecDepth 100000 in
set_option maxHeartbeats 1000000 in
theorem parse_17 (s : ByteArray) (w : World) (hs : s.size = 17) :
    Calls Try.prog 10 #[.string s] w fun e w' => e = .returned (.tuple #[.string (parseS s), .int .i64 (parseE s)]) ∧ Below w.heap.size w w' := by
  obtain ⟨i0, hi, hz0, hz1, hz2⟩ := info_parts Try.info5
  have HI := Lib.hid hi
  have HZ0 := Lib.hid hz0
  have HZ1 := Lib.hid hz1
  have HZ2 := Lib.hid hz2
  clear hi hz0 hz1 hz2
  have hz : (s.size : Int) = 17 := by omega
  go_enter Try.func10, Try.ntmps10
  go_wp2_with (at_make; refine wpList_make_full _ rfl (.const (.int .i64 6)) (.const (.int .i64 6)) 33 rfl w.heap.size 5 i0 (.int .u8 0) 1 Try.underlying33 HI.out HZ0.out HZ1.out .i64 .i64 6 6 6 rfl rfl rfl rfl (by rw [HZ2.out]; omega) (by unfold maxLen; omega) (Nat.le_refl _) ?_; intro w1 hrow hgrow)
  have hst := Fill.start (l := six (macB s)) rfl hrow hgrow
  clear hrow hgrow
  go_loopw [15] (fun i wr => ∃ k : Nat, k ≤ 6 ∧ i = .int .i64 k ∧ goodB s k = true ∧ Fill w.heap.size (six (macB s)) k w wr) (fun i _ => 6 - (intOf i).toNat)
  case atStart => exact ⟨0, by omega, rfl, rfl, hst⟩
  case round =>
    obtain ⟨k, hk, rfl, hg, hfill⟩ := hrel
    clear hst
    have HG := Lib.hid hg
    clear hg
    by_cases hlt : k < 6
    · have l0 : 3 * k < s.size := by omega
      have l1 : 3 * k + 1 < s.size := by omega
      obtain ⟨C0, hC0, eC0⟩ : ∃ C : Nat, C < 256 ∧ s[3 * k].toNat = C := ⟨_, UInt8.toNat_lt _, rfl⟩
      obtain ⟨C1, hC1, eC1⟩ : ∃ C : Nat, C < 256 ∧ s[3 * k + 1].toNat = C := ⟨_, UInt8.toNat_lt _, rfl⟩
      have hgd := good1_eq s k hs hlt
      have hmac := macB_eq s k hs hlt
      rw [eC0, eC1] at hgd hmac
      have G0 := Lib.hid (fun w => digit_any C0 w hC0)
      have G1 := Lib.hid (fun w => digit_any C1 w hC1)
      have r0 := hexV_range C0
      have r1 := hexV_range C1
      obtain ⟨V0, eV0⟩ : ∃ V, hexV C0 = V := ⟨_, rfl⟩
      obtain ⟨V1, eV1⟩ : ∃ V, hexV C1 = V := ⟨_, rfl⟩
      rw [eV0, eV1] at hgd hmac
      rw [eV0] at G0 r0
      rw [eV1] at G1 r1
      clear eV0 eV1
      have e3 : IntKind.i64.wrap (3 * (k : Int)) = 3 * (k : Int) := IntWalk.i64_in _ (by omega)
      have e4 : IntKind.i64.wrap (3 * (k : Int) + 1) = 3 * (k : Int) + 1 := IntWalk.i64_in _ (by omega)
      have t0 : (3 * (k : Int)).toNat = 3 * k := by omega
      have t1 : (3 * (k : Int) + 1).toNat = 3 * k + 1 := by omega
      have HGD := Lib.hid hgd
      have HMAC := Lib.hid hmac
      clear hgd hmac
      have hB0 := Below.refl wr.heap.size wr
      go_wp2_with fail
      go_region_held3 (fun w' => Below wr.heap.size wr w') (first | exact hB0 | assumption | exact hB0.drew | exact bl (by assumption) hq)
        (first
          | (go_at_call 20; ((with_reducible refine (G0.out _).mono ?_); rintro e w' ⟨rfl, hq⟩))
          | (go_at_call 20; ((with_reducible refine (G1.out _).mono ?_); rintro e w' ⟨rfl, hq⟩)))
      all_goals
        rename_i hH
        clear hq
        clear hB0 G0 G1 e3 e4 t0 t1 eC0 eC1
        by_cases n0 : V0 < 0
        · have HE := Lib.hid (parse_bad s k hlt (by rw [HGD.out, decide_eq_false (by omega)]; rfl))
          have hB1 := hfill.below.trans (hH.mono hfill.room)
          clear hfill hH
          go_wp2
          go_ret2
          exact ⟨by rw [HE.out.1, HE.out.2]; rfl, hB1⟩
        · by_cases n1 : V1 < 0
          · have HE := Lib.hid (parse_bad s k hlt (by rw [HGD.out, decide_eq_false (p := 0 ≤ V1) (by omega)]; simp))
            have hB1 := hfill.below.trans (hH.mono hfill.room)
            clear hfill hH
            go_wp2
            go_ret2
            exact ⟨by rw [HE.out.1, HE.out.2]; rfl, hB1⟩
          · by_cases hsep : k = 5 ∨ bt s (3 * k + 2) = 58
            · obtain ⟨X, rfl⟩ := Int.eq_ofNat_of_zero_le (by omega : 0 ≤ V0)
              obtain ⟨Y, rfl⟩ := Int.eq_ofNat_of_zero_le (by omega : 0 ≤ V1)
              have GS := Lib.hid (fun w => separated_yes s k w hs hlt hsep)
              have HN := Lib.hid (show goodB s (k + 1) = true by
                rw [goodB, HG.out, HGD.out, decide_eq_true (show (0 : Int) ≤ X by omega), decide_eq_true (show (0 : Int) ≤ Y by omega)]
                simpa using hsep)
              clear hsep n0 n1
              obtain ⟨N, hN, eN⟩ : ∃ N : Nat, N < 256 ∧ 16 * X + Y = N := ⟨_, by omega, rfl⟩
              have hor := shl_or X Y (by omega) (by omega)
              rw [eN] at hor
              have hf2 := hfill.kept hH
              obtain ⟨u, hcell⟩ := hf2.cell k hlt
              have hfree := hf2.free k
              have HF := Lib.hid (hf2.next hlt hN (by rw [HMAC.out, ← eN]; rfl))
              clear hfill hf2 hH
              go_wp2_with (go_at_call 21; refine (GS.out _).mono ?_; rintro e w3 ⟨rfl, rfl⟩)
              go_roundw
              case rel => exact ⟨k + 1, by omega, by go_num, HN.out, HF.out⟩
              case measure => simp [intOf]; omega
            · have hk5 : k < 5 := by omega
              have GS := Lib.hid (fun w => separated_no s k w hs hk5 (fun e => hsep (.inr e)))
              have HE := Lib.hid (parse_bad s k hlt (by rw [HGD.out]; simp; exact fun _ _ => ⟨fun e => hsep (.inl e), fun e => hsep (.inr e)⟩))
              have hB1 := hfill.below.trans (hH.mono hfill.room)
              clear hfill hH hsep
              go_wp2_with (go_at_call 21; refine (GS.out _).mono ?_; rintro e w3 ⟨rfl, rfl⟩)
              go_ret2
              exact ⟨by rw [HE.out.1, HE.out.2]; rfl, hB1⟩
    · obtain rfl : k = 6 := by omega
      have hconv := hfill.text rfl
      have HE : Hid (parseS s = ⟨(six (macB s)).toArray⟩ ∧ parseE s = 0) := Lib.hid ⟨if_pos ⟨hs, HG.out⟩, if_pos ⟨hs, HG.out⟩⟩
      go_wp2
      go_ret2
      exact ⟨by rw [HE.out.1, HE.out.2]; rfl, hfill.below⟩
theorem parse_any (s : ByteArray) (w : World) :
    Calls Try.prog 10 #[.string s] w fun e w' => e = .returned (.tuple #[.string (parseS s), .int .i64 (parseE s)]) ∧ Below w.heap.size w w' := by
  by_cases hs : s.size = 17
  · exact parse_17 s w hs
  · rw [parseS, parseE, if_neg (fun h => hs h.1), if_neg (fun h => hs h.1)]
    have hz : ((s.size : Int) == 17) = false := by rw [beq_eq_false_iff_ne]; omega
    go_enter Try.func10, Try.ntmps10
    go_wp2
    go_ret2
    exact ⟨rfl, Below.refl _ _⟩
end Go.Proofs.Ythknggabioadhaa
