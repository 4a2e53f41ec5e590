/-
  What the functions of package octet come to: Join.
-/
import Derived.Test.YtbalpndgpdbcbaaOctB
namespace Go.Proofs.Ytbalpndgpdbcbaa
open Go.RowKit

set_option maxHeartbeats 1000000 in
theorem join_any (A : Option Addr) (l c : Nat) (ps : List Part) (w : World) (h : Bss w A l c ps) (htot : total ps ≤ 140737488355328) :
    Calls Try.prog 22 #[.slice A l c] w fun e w' => GivesB w 5 (joined ps) e w' := by
  obtain ⟨i0, hi0, hz0, hz1, hz2⟩ := info_parts byte_info
  obtain ⟨hS, hP⟩ := h
  have hlen : ps.length = l := by simpa using hS.len
  have hlc := hS.le
  have hcm := hS.cap
  unfold maxLen at hcm
  go_enter Try.func22, Try.ntmps22
  go_wp2_with fail
  go_loop [3, 11] (fun v i => ∃ k : Nat, k ≤ l ∧ i = .int .i64 k ∧ v = .int .i64 (total (ps.take k))) (fun _ i => l - (intOf i).toNat)
  case atStart => exact ⟨0, Nat.zero_le _, rfl, by simp [total]⟩
  case round =>
    obtain ⟨k, hk, rfl, rfl⟩ := hrel
    by_cases hkl : k < l
    · obtain ⟨b, o, rfl, hlt, hcell⟩ := hS.at_ (by omega)
      have hc := hcell k _ (by rw [List.getElem?_map, List.getElem?_eq_getElem (by omega)]; rfl)
      unfold Part.v at hc
      have ht := total_succ ps k (by omega)
      have ht2 := total_take_le ps (k + 1)
      have Ht := Lib.hid ht; 
      have hbound : total (ps.take k) + (ps[k]'(by omega)).n ≤ 140737488355328 := by omega
      clear ht ht2 hcell
      generalize (ps[k]'(by omega)) = p at *
      go_wp2
      go_round
      case rel => exact ⟨k + 1, by omega, by go_num, by rw [Ht.out]; go_num⟩
      case measure => simp [intOf]; omega
    · have e : k = l := by omega
      rw [List.take_of_length_le (by omega)]
      go_wp2_with (at_make; go_loud (refine wpList_make_own _ rfl _ (.tmp 20) 27 rfl w.heap.size 5 i0 (.int .u8 0) 1 Try.underlying27 hi0 hz0 hz1 .i64 .i64 _ (total ps) rfl rfl rfl (by rw [hz2]; omega) (by simp only [maxLen]; omega) (Nat.le_refl _) ?_); intro w1 hown hgrow)
      have hb1 : Below w.heap.size w w1 := (Below.refl _ _).grown hgrow (Nat.le_refl _) (by intro k h; cases h)
      have hown1 : Own w1 w.heap.size 5 (some ⟨w.heap.size, 0, none⟩) (total (ps.take 0)) (total ps) (joined (ps.take 0)) := hown
      clear hown hgrow e hkl hk
      go_loopw [6, 24] (fun v i wr => ∃ k : Nat, k ≤ l ∧ i = .int .i64 k ∧ v = .slice (some ⟨w.heap.size, 0, none⟩) (total (ps.take k)) (total ps) ∧ Below w.heap.size w wr ∧ Own wr w.heap.size 5 (some ⟨w.heap.size, 0, none⟩) (total (ps.take k)) (total ps) (joined (ps.take k))) (fun _ i _ => l - (intOf i).toNat)
      case atStart => exact ⟨0, Nat.zero_le _, rfl, rfl, hb1, hown1⟩
      case round =>
        obtain ⟨k, hk, rfl, rfl, hbel, hown⟩ := hrel
        clear hb1 hown1
        by_cases hkl : k < l
        · obtain ⟨b, o, rfl, hlt, hcell⟩ := hS.at_ (by omega)
          have hc0 := hcell k _ (by rw [List.getElem?_map, List.getElem?_eq_getElem (by omega)]; rfl)
          have hc : wr.cell? ⟨b, o + k, none⟩ = some _ := (hbel.cell (p := ⟨b, o + k, none⟩) hlt).trans hc0
          unfold Part.v at hc
          have hPk := (hP (ps[k]'(by omega)) (List.getElem_mem _)).below hbel
          have ht := total_succ ps k (by omega)
          have hj := joined_succ ps k (by omega)
          have ht2 := total_take_le ps (k + 1)
          have hroom : total (ps.take k) + (ps[k]'(by omega)).n ≤ total ps := by omega
          have Ht := Lib.hid ht
          have Hj := Lib.hid hj
          clear ht hj ht2 hcell hc0
          generalize (ps[k]'(by omega)) = p at *
          go_wp2_with (at_builtin; go_loud (refine wpList_append_fits_any _ rfl (.tmp 28) (.tmp 29) 27 rfl w.heap.size 5 i0 1 Try.underlying27 hi0 hz1 w.heap.size (total (ps.take k)) (total ps) _ rfl hown p.A p.n p.c (p.s.map byteV) rfl (by rw [List.length_map, hPk.len, Nat.mul_one]) (Sl.nothing hPk) (Sl.added hPk) (bytes_oneCell _) hroom ?_); intro w2 hown2 hgrow2)
          have hbel2 : Below w.heap.size w w2 := hbel.grown hgrow2 hbel.size (by intro k h; injection h with h; omega)
          have hown3 : Own w2 w.heap.size 5 (some ⟨w.heap.size, 0, none⟩) (total (ps.take (k + 1))) (total ps) (joined (ps.take (k + 1))) := by
            unfold Own
            rw [Ht.out, Hj.out, List.map_append]
            exact hown2
          go_roundw
          case rel => exact ⟨k + 1, by omega, by go_num, by rw [Ht.out], hbel2, hown3⟩
          case measure => simp [intOf]; omega
        · have e : k = l := by omega
          rw [List.take_of_length_le (by omega)] at hown
          rw [List.take_of_length_le (by omega)]
          go_wp2
          go_ret
          have hjl := joined_length (ps := ps) (fun p hp => (hP p hp).len)
          exact ⟨some ⟨w.heap.size, 0, none⟩, total ps, by rw [hjl]; rfl, by rw [hjl]; exact hown, hbel⟩

/-- Join of slices that were just written out. -/
theorem join_lit (ps : List Part) (s : List UInt8) (w : World) (h : ∀ p ∈ ps, Bs w p.A p.n p.c p.s) (hs : joined ps = s) (hm : ps.length ≤ maxLen) (htot : s.length ≤ 140737488355328) :
    Calls Try.prog 22 #[.slice (some ⟨w.heap.size, 0, none⟩) ps.length ps.length] (w.alloc (.cells (ps.map Part.v).toArray 27)) fun e w' => GivesB w 5 s e w' := by
  subst hs
  have hl := joined_length (ps := ps) (fun p hp => (h p hp).len)
  refine (join_any _ _ _ ps _ (Bss.lit ps 27 hm h) (by omega)).mono ?_
  rintro e w' ⟨A2, c2, rfl, hown, hbel⟩
  refine ⟨A2, c2, rfl, hown.mono (by simp), ?_⟩
  exact ((Below.refl _ _).alloc (Nat.le_refl _) _).trans (hbel.mono (by simp))

end Go.Proofs.Ytbalpndgpdbcbaa
