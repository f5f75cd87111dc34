/-
  What the document's own Turn answers, for every string of at most 2 to the 47 less 4096 bytes: the same as words.Turn.
-/
import Derived.Test.YtlgcnaedaljpiaaTurn
namespace Go.Proofs.Ytlgcnaedaljpiaa
open Go.RowKit

theorem own_text {B n : Nat} {v : Value} {l : List UInt8} {w : World} (h : w.ownsRow B 5 1 v n (l.map byteV)) (hn : l.length = n) :
    (convert 36 9 v).run Try.prog w = .ok (.string ⟨l.toArray⟩) w := by
  subst hn
  rcases h.2 with ⟨rfl, hx⟩ | ⟨g, cap, cur, rfl, hB, hg, hnc, hcm, hcs, htake⟩
  · have : l = [] := by simpa using hx
    subst this
    exact run_convert_bytes_nil w 36 5 Try.underlying36 Try.underlying5 0 0 9 Try.underlying9
  · refine run_convert_bytes_back w 36 9 5 ⟨g, 0, none⟩ cap l Try.underlying36 Try.underlying5 Try.underlying9 ?_
    intro j hj
    have e : (⟨g, 0, none⟩ : Addr).add j = ⟨g, j, none⟩ := by unfold Addr.add; split <;> simp_all
    rw [e, World.ownsRow.cellAt h j (by omega)]
    simp [hj, byteV]

set_option maxHeartbeats 400000 in
theorem turnr_any (s : ByteArray) (w : World) (hs : s.size ≤ 140737488351232) :
    Calls Try.prog 17 #[.string s] w fun e w' => e = .returned (.string (turnS s)) ∧ Below w.heap.size w w' := by
  obtain ⟨i0, hi, hz0, hz1, hz2⟩ := info_parts Try.info5
  have HI := Lib.hid hi
  have HZ0 := Lib.hid hz0
  have HZ1 := Lib.hid hz1
  have HZ2 := Lib.hid hz2
  clear hi hz0 hz1 hz2
  go_enter Try.func17, Try.ntmps17
  go_wp2
  go_loopw [3, 4] (fun v i wr => ∃ k : Nat, k ≤ s.size ∧ i = .int .i64 ((s.size : Int) - 1 - k) ∧ wr.ownsRow w.heap.size 5 1 v k (((revl s).take k).map byteV) ∧ Below w.heap.size w wr) (fun _ i _ => (intOf i + 1).toNat)
  case atStart => exact ⟨0, Nat.zero_le _, by go_num, World.ownsRow_lit w #[] 0 (Nat.le_refl _) (Nat.zero_le _) rfl, (Below.refl _ _).alloc (Nat.le_refl _) _⟩
  case round =>
    obtain ⟨k, hk, rfl, hown, hb⟩ := hrel
    by_cases hlt : k < s.size
    · obtain ⟨m, hm⟩ : ∃ m : Nat, m = s.size - 1 - k := ⟨_, rfl⟩
      have em : (s.size : Int) - 1 - k = m := by omega
      have hml : m < s.size := by omega
      have hc : s[m].toNat < 256 := s[m].toNat_lt
      have hbs := hb.size
      have HM := Lib.hid hm
      clear hm
      rw [em]
      have HE := Lib.hid em
      clear em
      go_wp2_with (at_builtin; refine wpList_append_own _ rfl _ _ 36 rfl w.heap.size 5 i0 (.int .u8 0) 1 1 Try.underlying36 HI.out HZ0.out HZ1.out HZ2.out rfl (by decide) _ _ _ rfl (hown.alloc _) ⟨wr.heap.size, 0, none⟩ 1 1 [.int .u8 (s[m].toNat : Int)] rfl rfl ?c1 ?c2 ?c3 ?c4 ?c5 ?_)
      case c1 =>
        intro j u hj
        match j, hj with
        | 0, hj => simp at hj; subst hj; simp [Addr.add]
      case c2 => intro u hu; simp at hu; subst hu; rfl
      case c3 => unfold maxLen; omega
      case c4 => omega
      case c5 => simp; omega
      · intro v' w1 hown' hgrow _
        have hb' : Below w.heap.size w w1 := (hb.alloc hbs _).grown hgrow (by simp; omega) (fun j hj => (hown.lt j hj).1)
        have hown2 : w1.ownsRow w.heap.size 5 1 v' (k + 1) (((revl s).take (k + 1)).map byteV) := by
          have hg : (revl s)[k]'(by rw [revl_length]; exact hlt) = s[m] := by
            rw [← revl_get s m hml]
            congr 1
            have := HM.out; omega
          rw [take_snoc (revl s) k (by rw [revl_length]; exact hlt), hg, List.map_append, List.map_take]
          exact hown'
        clear hown hown' hgrow hb hbs
        go_wp2
        go_roundw
        case rel => exact ⟨k + 1, by omega, by have := HE.out; go_num, hown2, hb'⟩
        case measure => simp [intOf]
    · obtain rfl : k = s.size := by omega
      have e0 : (s.size : Int) - 1 - s.size = -1 := by omega
      rw [e0]
      clear e0
      rw [List.take_of_length_le (Nat.le_of_eq (revl_length s))] at hown
      have hconv := own_text hown (revl_length s)
      clear hown
      go_wp2
      go_ret
      exact ⟨rfl, hb⟩
end Go.Proofs.Ytlgcnaedaljpiaa
