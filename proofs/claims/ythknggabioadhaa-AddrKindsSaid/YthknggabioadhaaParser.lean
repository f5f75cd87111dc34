/-
  What the document's Parse answers: for every string.
-/
import Derived.Test.YthknggabioadhaaPrintr
import Derived.Test.YthknggabioadhaaParse
import Derived.Deep.RegionLaw
namespace Go.Proofs.Ythknggabioadhaa
open Go.RowKit

theorem parse_of_txt (s : ByteArray) (hs : s.size = 17) : goodB s 6 = decide ((⟨(txt (macB s) 6).toArray⟩ : ByteArray) = s) := by
  rw [Bool.eq_iff_iff, decide_eq_true_eq]
  constructor
  · intro h
    rw [txt_of s hs h]
  · intro h
    exact (of_txt s (macB s) (congrArg (fun x : ByteArray => x.data.toList) h)).2.1
theorem bt_six (f : Nat → UInt8) (k : Nat) (hk : k < 6) : bt ⟨(six f).toArray⟩ k = f k := by
  rw [bt_in ⟨(six f).toArray⟩ k hk]
  exact six_get f k hk hk
theorem printS_six (f : Nat → UInt8) : printS ⟨(six f).toArray⟩ = ⟨(txt f 6).toArray⟩ := by
  rw [printS, if_pos (show (⟨(six f).toArray⟩ : ByteArray).size = 6 from rfl)]
  have e : txt (bt ⟨(six f).toArray⟩) 6 = txt f 6 := by
    rw [txt6, txt6, bt_six f 0 (by omega), bt_six f 1 (by omega), bt_six f 2 (by omega), bt_six f 3 (by omega), bt_six f 4 (by omega), bt_six f 5 (by omega)]
  rw [e]

theorem byteV_ofNat (N : Nat) (hN : N < 256) : List.map byteV [UInt8.ofNat N] = [.int .u8 (N : Int)] := by simp [byteV, Nat.mod_eq_of_lt hN]
theorem Grow.kept {B g n cap : Nat} {xs : List UInt8} {w0 w w2 : World} (h : Grow B g n cap xs w0 w) (hb : Below w.heap.size w w2) : Grow B g n cap xs w0 w2 := by
  obtain ⟨h3, h4, h5, h6⟩ := h
  have hz := hb.size
  refine ⟨h3, own_same h4 (fun g hg => hb.block g ?_), h5.trans (hb.mono h6), by omega⟩
  rcases h4.2 with hn | ⟨g', cap, cur, e, _, hgg, _⟩
  · simp at hn
  · rw [e] at hg
    have : g' = g := by simpa [Value.ownBlock] using hg
    subst this
    exact (Array.getElem?_eq_some_iff.1 hgg).1

def upto (f : Nat → UInt8) (k : Nat) : List UInt8 := (List.range k).map f
theorem upto_length (f : Nat → UInt8) (k : Nat) : (upto f k).length = k := by simp [upto]
theorem upto_next (f : Nat → UInt8) (k : Nat) : upto f (k + 1) = upto f k ++ [f k] := by simp [upto, List.range_succ]
theorem upto_six (f : Nat → UInt8) : upto f 6 = six f := by
  simp [upto, six, List.range, List.range.loop]

set_option maxRecDepth 100000 in
set_option maxHeartbeats 1000000 in
theorem parser_17 (s : ByteArray) (w : World) (hs : s.size = 17) :
    Calls Try.prog 11 #[.string s] w fun e w' => e = .returned (.tuple #[.string (parseS s), .int .i64 (parseE s)]) ∧ Below w.heap.size w w' := by
  obtain ⟨i0, hi, hz0, hz1, hz2⟩ := info_parts Try.info5
  have HI := Lib.hid hi
  have HZ0 := Lib.hid hz0
  have HZ1 := Lib.hid hz1
  have HZ2 := Lib.hid hz2
  clear hi hz0 hz1 hz2
  have hz : (s.size : Int) = 17 := by omega
  go_enter Try.func11, Try.ntmps11
  go_wp2_with fail
  have hst : Grow w.heap.size w.heap.size 0 0 [] w (w.alloc (.cells #[] 5)) :=
    ⟨rfl, ⟨rfl, .inr ⟨w.heap.size, 0, #[], rfl, Nat.le_refl _, heap_alloc_new w _, Nat.le_refl _, Nat.zero_le _, rfl, rfl⟩⟩, (Below.refl _ _).alloc (Nat.le_refl _) _, by simp⟩
  go_loopw [4, 5] (fun t i wr => ∃ k g cap : Nat, k ≤ 6 ∧ i = .int .i64 k ∧ t = .slice (some ⟨g, 0, none⟩) k cap ∧ Grow w.heap.size g k cap (upto (macB s) k) w wr) (fun _ i _ => 6 - (intOf i).toNat)
  case atStart => exact ⟨0, w.heap.size, 0, by omega, rfl, rfl, hst⟩
  case round =>
    obtain ⟨k, g, cap, hk, rfl, rfl, hfill⟩ := hrel
    clear hst
    by_cases hlt : k < 6
    · have l0 : 3 * k < s.size := by omega
      have l1 : 3 * k + 1 < s.size := by omega
      obtain ⟨C0, eC0⟩ : ∃ C : Nat, s[3 * k].toNat = C := ⟨_, rfl⟩
      obtain ⟨C1, eC1⟩ : ∃ C : Nat, s[3 * k + 1].toNat = C := ⟨_, rfl⟩
      have hmac := macB_eq s k hs hlt
      rw [eC0, eC1] at hmac
      have r0 := hexV_range C0
      have r1 := hexV_range C1
      have G0 := Lib.hid (fun w => (value_any C0 w).mono fun e w' (h : _ ∧ w = w') => (⟨h.1, h.2.symm⟩ : _ ∧ w' = w))
      have G1 := Lib.hid (fun w => (value_any C1 w).mono fun e w' (h : _ ∧ w = w') => (⟨h.1, h.2.symm⟩ : _ ∧ w' = w))
      obtain ⟨X, hX, eX⟩ : ∃ V : Nat, V < 16 ∧ (hexV C0).toNat = V := ⟨_, by omega, rfl⟩
      obtain ⟨Y, hY, eY⟩ : ∃ V : Nat, V < 16 ∧ (hexV C1).toNat = V := ⟨_, by omega, rfl⟩
      rw [eX, eY] at hmac
      rw [eX] at G0
      rw [eY] at G1
      obtain ⟨N, hN, eN⟩ : ∃ N : Nat, N < 256 ∧ 16 * X + Y = N := ⟨_, by omega, rfl⟩
      rw [eN] at hmac
      have eN2 : 16 * (X : Int) + Y = N := by omega
      clear eX eY r0 r1 eN
      have e1 : IntKind.i64.wrap (3 * (k : Int)) = 3 * (k : Int) := IntWalk.i64_in _ (by omega)
      have e2 : IntKind.i64.wrap (3 * (k : Int) + 1) = 3 * (k : Int) + 1 := IntWalk.i64_in _ (by omega)
      have e3 : (0 : Int) ≤ 3 * (k : Int) := by omega
      have e4 : (0 : Int) ≤ 3 * (k : Int) + 1 := by omega
      have e5 : 3 * (k : Int) < 17 := by omega
      have e6 : 3 * (k : Int) + 1 < 17 := by omega
      have t0 : (3 * (k : Int)).toNat = 3 * k := by omega
      have t1 : (3 * (k : Int) + 1).toNat = 3 * k + 1 := by omega
      have e7 : IntKind.i64.wrap (16 * (X : Int)) = 16 * (X : Int) := IntWalk.i64_in _ (by omega)
      have e8 : IntKind.i64.wrap (N : Int) = N := IntWalk.i64_in _ (by omega)
      have e9 : IntKind.u8.wrap (N : Int) = N := by rw [IntKind.wrap_u8]; omega
      have HMAC := Lib.hid hmac
      clear hmac
      go_wp2_with fail
      have HR := Lib.hid (hfill.ready [UInt8.ofNat N] _ (.inr rfl))
      have hb := hfill.base
      have hl2 := Lib.hid hfill.1
      clear hfill
      rw [byteV_ofNat N hN] at HR
      go_region_held3 (fun w' => True) (trivial)
        (first
          | (go_at_call 22; ((with_reducible refine (G0.out _).mono ?_); rintro e w' ⟨rfl, rfl⟩))
          | (go_at_call 22; ((with_reducible refine (G1.out _).mono ?_); rintro e w' ⟨rfl, rfl⟩))
          | (refine step_append_lies ((wr.alloc (.cells #[.int .u8 (N : Int)] 5)).drew) rfl (.tmp 16) (.tmp 31) 33 rfl w.heap.size 5 i0 _ 1 1 Try.underlying33 HI.out HZ0.out HZ1.out HZ2.out rfl (by decide) (.slice (some ⟨g, 0, none⟩) k cap) k ((upto (macB s) k).map byteV) rfl HR.out.1 ⟨wr.heap.size, 0, none⟩ 1 1 [.int .u8 (N : Int)] rfl rfl HR.out.2.1 (by simp [Value.oneCell']) (by decide) (by unfold maxLen; omega) (by omega) HR.out.2.2.2 _ rfl ?_; intro gl cap' w2 hown hgrow hat hlt'))
      all_goals
        have HN := Lib.hid (Grow.more (m := 1) (ys := [UInt8.ofNat N]) hl2.out rfl HR.out.2.2.1 HR.out.2.2.2 hb (by rw [byteV_ofNat N hN]; exact hown) hgrow)
        clear hown hgrow hat hlt'
        rw [← HMAC.out, ← upto_next] at HN
        go_wp2
        go_roundw
        case rel => exact ⟨k + 1, gl, cap', by omega, by go_num, rfl, HN.out⟩
        case measure => simp [intOf]; omega
    · obtain rfl : k = 6 := by omega
      rw [upto_six] at hfill
      obtain ⟨M, eM⟩ : ∃ M : ByteArray, (⟨(six (macB s)).toArray⟩ : ByteArray) = M := ⟨_, rfl⟩
      obtain ⟨T, eT⟩ : ∃ T : ByteArray, (⟨(txt (macB s) 6).toArray⟩ : ByteArray) = T := ⟨_, rfl⟩
      have hconv := hfill.text
      rw [eM] at hconv
      have GP := Lib.hid (fun w => printr_any M w)
      rw [← eM, printS_six, show printE ⟨(six (macB s)).toArray⟩ = 0 from if_pos rfl, eM, eT] at GP
      have hgood := parse_of_txt s hs
      rw [eT] at hgood
      have EM := Lib.hid eM
      clear eM eT
      by_cases h : T = s
      · have HE : Hid (parseS s = M ∧ parseE s = 0) := Lib.hid (by
          rw [decide_eq_true h] at hgood
          exact ⟨by rw [parseS, if_pos ⟨hs, hgood⟩, EM.out], if_pos ⟨hs, hgood⟩⟩)
        subst h
        clear hgood
        go_wp2_with (go_at_call 9; ((with_reducible refine (GP.out _).mono ?_); rintro e w3 ⟨rfl, hq⟩; have hconv2 := (hfill.kept hq).text; rw [EM.out] at hconv2))
        go_ret2
        exact ⟨by rw [HE.out.1, HE.out.2]; rfl, (hfill.kept hq).below⟩
      · have HE : Hid (parseS s = ⟨#[]⟩ ∧ parseE s = 50) := Lib.hid (by
          rw [decide_eq_false h] at hgood
          exact ⟨if_neg (by rw [hgood]; simp), if_neg (by rw [hgood]; simp)⟩)
        have e1 := str_ne h
        clear hgood h
        go_wp2_with (go_at_call 9; ((with_reducible refine (GP.out _).mono ?_); rintro e w3 ⟨rfl, hq⟩))
        go_ret2
        exact ⟨by rw [HE.out.1, HE.out.2]; rfl, (hfill.kept hq).below⟩
theorem parser_any (s : ByteArray) (w : World) :
    Calls Try.prog 11 #[.string s] w fun e w' => e = .returned (.tuple #[.string (parseS s), .int .i64 (parseE s)]) ∧ Below w.heap.size w w' := by
  by_cases hs : s.size = 17
  · exact parser_17 s w hs
  · rw [parseS, parseE, if_neg (fun h => hs h.1), if_neg (fun h => hs h.1)]
    have hz : ((s.size : Int) == 17) = false := by rw [beq_eq_false_iff_ne]; omega
    go_enter Try.func11, Try.ntmps11
    go_wp2
    go_ret2
    exact ⟨rfl, Below.refl _ _⟩
end Go.Proofs.Ythknggabioadhaa
