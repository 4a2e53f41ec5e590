/-
  The document's own answers of layer 2: Add.
-/
import Derived.Test.YthkngjokbkfebaaRbitC
import Derived.Test.YthkngjokbkfebaaApp
namespace Go.Proofs.Ythkngjokbkfebaa
open Go.RowKit

set_option maxRecDepth 100000 in
set_option maxHeartbeats 1000000 in
theorem radd_arg (A : Option Addr) (l c : Nat) (s : List UInt8) (m n : Int) (v : Nat) (w : World) (hs : Bs w A l c s) (hl : l ≤ 140737488355328) (h : ¬ (inkB s m = true ∧ 0 ≤ n ∧ n ≤ 64)) :
    Calls Try.prog 16 #[.agg #[.slice A l c, .int .i64 m], .int .u64 v, .int .i64 n] w (Says w (.tuple #[.agg #[.slice A l c, .int .i64 m], .int .i64 1])) := by
  by_cases hr : inkB s m = true
  · have R := Lib.hid (fun w hs => rink_is A l c s m w hs hl true hr)
    rcases (show n < 0 ∨ (0 ≤ n ∧ 64 < n) by
        by_cases h1 : 0 ≤ n
        · by_cases h2 : n ≤ 64
          · exact absurd ⟨hr, h1, h2⟩ h
          · omega
        · omega) with hn | ⟨hn1, hn⟩
    all_goals
      clear h hr
      go_enter Try.func16, Try.ntmps16
      go_wp2_with fail
      refine (R.out _ ((hs.alloc _).alloc _)).mono ?_
      rintro e w1 ⟨rfl, hW⟩
      have hB := (below2 w _ _).trans (hW.mono (by simp; omega))
      have k1 := ((Box.new w _ _).alloc _).call hW
      have k2 := (Box.new (w.alloc _) _ _).call hW
      rw [World.size_alloc] at k2
      obtain ⟨c0, c1, f0, f1, l1⟩ := k1.two
      obtain ⟨c2, c3, f2, f3, l2⟩ := k2.two
      clear hW k1 k2
      go_wp2
      refine bodyPost_ret (v := .tuple #[.agg #[.slice A l c, .int .i64 m], .int .i64 1]) (by simp [results, Try.results16, go_sem, *]) rfl ⟨rfl, ?_⟩
      exact (hB.setCell (by simp) _).setCell (by simp) _
  · have R := Lib.hid (fun w hs => rink_is A l c s m w hs hl false (by simpa using hr))
    clear h hr
    go_enter Try.func16, Try.ntmps16
    go_wp2_with fail
    refine (R.out _ ((hs.alloc _).alloc _)).mono ?_
    rintro e w1 ⟨rfl, hW⟩
    have hB := (below2 w _ _).trans (hW.mono (by simp; omega))
    have k1 := ((Box.new w _ _).alloc _).call hW
    have k2 := (Box.new (w.alloc _) _ _).call hW
    rw [World.size_alloc] at k2
    obtain ⟨c0, c1, f0, f1, l1⟩ := k1.two
    obtain ⟨c2, c3, f2, f3, l2⟩ := k2.two
    clear hW k1 k2
    go_wp2
    refine bodyPost_ret (v := .tuple #[.agg #[.slice A l c, .int .i64 m], .int .i64 1]) (by simp [results, Try.results16, go_sem, *]) rfl ⟨rfl, ?_⟩
    exact (hB.setCell (by simp) _).setCell (by simp) _

/-- What holds while the number's bits are laid out: j of them are. -/
def DigInv (w w1 : World) (A : Option Addr) (l c m n v : Nat) (x y i : Value) (W : World) : Prop :=
  ∃ j A8 c8, j ≤ n ∧ i = .int .i64 (j : Int) ∧ x = .int .u64 ((v / 2 ^ j : Nat) : Int) ∧ y = .slice A8 j c8 ∧
    Own W w1.heap.size 5 A8 j c8 (digL v j) ∧ Box W w.heap.size [.slice A l c, .int .i64 m] ∧ Box W (w.heap.size + 1) [.slice none 0 0, .int .i64 0] ∧ Below w.heap.size w W ∧ w1.heap.size ≤ W.heap.size

/-- What stands behind the copying of an ink: the new ink's variable, and its bytes. -/
def OutRel (wr : World) (l : Nat) (s : List UInt8) (m : Int) (p : Value) (W : World) : Prop :=
  ∃ b A9 c9, p = .pointer (some ⟨b, 0, none⟩) ∧ wr.heap.size ≤ b ∧ some b ≠ rowOf A9 ∧ Box W b [.slice A9 l c9, .int .i64 m] ∧ Own W wr.heap.size 5 A9 l c9 s ∧ Below wr.heap.size wr W

theorem outRel_new {wr w2 : World} {A9 : Option Addr} {l c9 : Nat} {s : List UInt8} {m : Int} (hown2 : Own w2 wr.heap.size 5 A9 (0 + l) c9 ([] ++ s)) (hB : Below wr.heap.size wr w2) :
    OutRel wr l s m (.pointer (some ⟨w2.heap.size, 0, none⟩)) (w2.alloc (.cells #[.slice A9 l c9, .int .i64 m] 27)) := by
  rw [Nat.zero_add, List.nil_append] at hown2
  refine ⟨w2.heap.size, A9, c9, rfl, hB.size, fun e => ?_, Box.new w2 [.slice A9 l c9, .int .i64 m] 27, hown2.alloc _, hB.alloc hB.size _⟩
  have := hown2.row_lt _ e.symm
  omega
theorem outRel_old {wr w2 : World} {A9 : Option Addr} {l c9 b : Nat} {s : List UInt8} {m : Int} {x y : Value} (hb : wr.heap.size ≤ b) (k : Box w2 b [x, y]) (hne : some b ≠ rowOf A9) (hown2 : Own w2 wr.heap.size 5 A9 (0 + l) c9 ([] ++ s)) (hB : Below wr.heap.size wr w2) :
    OutRel wr l s m (.pointer (some ⟨b, 0, none⟩)) ((w2.setCell ⟨b, 0, none⟩ (.slice A9 l c9)).setCell ⟨b, 1, none⟩ (.int .i64 m)) := by
  rw [Nat.zero_add, List.nil_append] at hown2
  exact ⟨b, A9, c9, rfl, hb, hne, k.put2 _ _, (hown2.other2 _ hne).other2 _ hne, below_put2 hB hb _ _⟩

theorem outRel_old2 {wr w2 : World} {A9 : Option Addr} {l c9 : Nat} {s : List UInt8} {m : Int} {x y : Value} {T : TypeId}
    (hgrow : ((wr.alloc (.cells #[] 5)).alloc (.cells #[x, y] T)).drew.grownBy w2 (rowOf (some ⟨wr.heap.size, 0, none⟩)))
    (hat : rowOf A9 = rowOf (some ⟨wr.heap.size, 0, none⟩) ∨ rowOf A9 = some ((wr.alloc (.cells #[] 5)).alloc (.cells #[x, y] T)).drew.heap.size)
    (hown2 : Own w2 wr.heap.size 5 A9 (0 + l) c9 ([] ++ s)) :
    OutRel wr l s m (.pointer (some ⟨wr.heap.size + 1, 0, none⟩)) ((w2.setCell ⟨wr.heap.size + 1, 0, none⟩ (.slice A9 l c9)).setCell ⟨wr.heap.size + 1, 1, none⟩ (.int .i64 m)) := by
  have kb := Box.new (wr.alloc (.cells #[] 5)) [x, y] T
  rw [World.size_alloc] at kb
  have kb2 : Box ((wr.alloc (.cells #[] 5)).alloc (.cells #[x, y] T)).drew (wr.heap.size + 1) [x, y] := kb
  refine outRel_old (by omega) (kb2.grown hgrow (by simp [rowOf])) ?_ hown2 ((below2 wr _ _).drew.grown hgrow (by simp; omega) (by intro k h; injection h with h; subst h; exact Nat.le_refl _))
  rcases hat with h | h <;> rw [h] <;> simp [rowOf]
theorem outRel_old3 {wr w2 : World} {A9 : Option Addr} {l c9 : Nat} {s : List UInt8} {m : Int} {x y : Value} {T : TypeId}
    (hgrow : ((wr.alloc (.cells #[x, y] T)).alloc (.cells #[] 5)).drew.grownBy w2 (rowOf (some ⟨wr.heap.size + 1, 0, none⟩)))
    (hat : rowOf A9 = rowOf (some ⟨wr.heap.size + 1, 0, none⟩) ∨ rowOf A9 = some ((wr.alloc (.cells #[x, y] T)).alloc (.cells #[] 5)).drew.heap.size)
    (hown2 : Own w2 wr.heap.size 5 A9 (0 + l) c9 ([] ++ s)) :
    OutRel wr l s m (.pointer (some ⟨wr.heap.size, 0, none⟩)) ((w2.setCell ⟨wr.heap.size, 0, none⟩ (.slice A9 l c9)).setCell ⟨wr.heap.size, 1, none⟩ (.int .i64 m)) := by
  have kb2 : Box ((wr.alloc (.cells #[x, y] T)).alloc (.cells #[] 5)).drew wr.heap.size [x, y] := (Box.new wr [x, y] T).alloc _
  refine outRel_old (by omega) (kb2.grown hgrow (by simp [rowOf])) ?_ hown2 ((below2 wr _ _).drew.grown hgrow (by simp; omega) (by intro k h; injection h with h; have h' : wr.heap.size + 1 = k := h; omega))
  rcases hat with h | h
  · rw [h]; simp [rowOf]
  · rw [h]; simp; omega

/-- What holds while the bits are written, the highest first: j of them are. -/
def GrowInv (w wr : World) (A A8 : Option Addr) (l c : Nat) (s : List UInt8) (m n v c8 b : Nat) (dl : List UInt8) (i : Value) (W : World) : Prop :=
  ∃ j A9 c9, j ≤ n ∧ i = .int .i64 ((n : Int) - 1 - j) ∧ Box W b [.slice A9 ((m + j + 7) / 8) c9, .int .i64 ((m : Int) + j)] ∧ Own W wr.heap.size 5 A9 ((m + j + 7) / 8) c9 (growS s m v n j) ∧ some b ≠ rowOf A9 ∧
    Box W w.heap.size [.slice A l c, .int .i64 m] ∧ Box W (w.heap.size + 1) [.slice none 0 0, .int .i64 0] ∧ Bs W A8 n c8 dl ∧ Below wr.heap.size wr W
/-- The same, in the midst of a round: there is room for the next bit. -/
def RoomInv (w wr : World) (A A8 : Option Addr) (l c : Nat) (s : List UInt8) (m n v c8 b j : Nat) (dl : List UInt8) (W : World) : Prop :=
  ∃ A5 c5, Own W wr.heap.size 5 A5 ((m + j) / 8 + 1) c5 (roomS s m v n j) ∧ Box W b [.slice A5 ((m + j) / 8 + 1) c5, .int .i64 ((m : Int) + j)] ∧ some b ≠ rowOf A5 ∧
    Box W w.heap.size [.slice A l c, .int .i64 m] ∧ Box W (w.heap.size + 1) [.slice none 0 0, .int .i64 0] ∧ Bs W A8 n c8 dl ∧ Below wr.heap.size wr W

set_option maxRecDepth 100000 in
set_option maxHeartbeats 1000000 in
theorem radd_main (A : Option Addr) (l c : Nat) (s : List UInt8) (m n v : Nat) (w : World) (hs : Bs w A l c s) (hl : l ≤ 140737488355000) (hr : inkB s m = true) (h2 : n ≤ 64) (hv64 : v < 18446744073709551616) :
    Calls Try.prog 16 #[.agg #[.slice A l c, .int .i64 m], .int .u64 v, .int .i64 n] w (GivesI w (addB s m v n) (addM s m v n) (addE s m v n)) := by
  have hlen := hs.len
  have hm8 : m ≤ 8 * l := by have := (inkB_iff.1 hr).2.1; rw [Int.toNat_natCast] at this; omega
  have R := Lib.hid (fun w hs => rink_is A l c s m w hs (by omega) true hr)
  have Hr := Lib.hid hr
  have e0 : addE s m v n = if 2 ^ n ≤ v then 6 else 0 := by unfold addE; rw [if_pos ⟨hr, by omega, by omega⟩, Int.toNat_natCast]
  have HE := Lib.hid e0
  have Hlen := Lib.hid hlen
  clear hr e0 hlen
  go_enter Try.func16, Try.ntmps16
  go_wp2_with fail
  refine (R.out _ ((hs.alloc _).alloc _)).mono ?_
  rintro e w1 ⟨rfl, hW⟩
  have hB := (below2 w _ _).trans (hW.mono (by simp; omega))
  have k1 := ((Box.new w _ _).alloc _).call hW
  have k2 := (Box.new (w.alloc _) _ _).call hW
  rw [World.size_alloc] at k2
  obtain ⟨c0, c1, f0, f1, l1⟩ := k1.two
  obtain ⟨c2, c3, f2, f3, l2⟩ := k2.two
  have hI : DigInv w w1 A l c m n v (.int .u64 v) (.slice none 0 0) (.int .i64 0) w1 := ⟨0, none, 0, Nat.zero_le _, by simp, by simp, rfl, Own.nil _ _ _, k1, k2, hB, Nat.le_refl _⟩
  have Hl2 := Lib.hid l2
  clear hW k1 k2 hB
  go_wp2_with fail
  clear c0 c1 c2 c3 f0 f1 f2 f3 l1 l2
  go_loopw [1, 8, 9] (fun x y i W => DigInv w w1 A l c m n v x y i W) (fun _ _ i _ => n - (intOf i).toNat)
  case atStart => exact hI
  case round =>
    obtain ⟨j, A8, c8, hj, rfl, rfl, rfl, hown, k1, k2, hB, hsz⟩ := hrel
    clear hI
    by_cases hjn : j < n
    · have hnx : v / 2 ^ (j + 1) = v / 2 ^ j / 2 := by rw [Nat.div_div_eq_div_mul, Nat.pow_succ]
      have hds := digL_succ v j
      have hxv : v / 2 ^ j ≤ v := Nat.div_le_self _ _
      generalize v / 2 ^ j = x at *
      have Hnx := Lib.hid hnx
      have Hds := Lib.hid hds
      clear hnx hds
      have hbs := Bs.lit1 wr (UInt8.ofNat (x % 2)) 5
      rw [show byteV (UInt8.ofNat (x % 2)) = .int .u8 ((x : Int) % 2) by rw [byteV_ofNat]; congr 1; omega] at hbs
      go_wp2_with (at_builtin; go_loud (refine wpList_app2 rfl (.tmp 31) (.tmp 35) 22 rfl w1.heap.size 5 Try.underlying22 byte_info A8 j c8 (digL v j) rfl (hown.alloc _) (some ⟨wr.heap.size, 0, none⟩) 1 1 [UInt8.ofNat (x % 2)] rfl hbs (by omega) (by simp; omega) ?_); intro A9 c9 w2 hown2 hgrow hat)
      have hl2 := Hl2.out
      have hne1 := hown.row_ne (b := w.heap.size) (by omega)
      have hne2 := hown.row_ne (b := w.heap.size + 1) (by omega)
      have hge := hown.row_ge
      go_roundw
      case rel =>
        refine ⟨j + 1, A9, c9, by omega, by go_num, by rw [Hnx.out]; simp, rfl, ?_, (k1.alloc _).grown hgrow hne1, (k2.alloc _).grown hgrow hne2, (hB.alloc hB.size _).grown hgrow (by have := hB.size; simp; omega) (fun k hk => by have := hge k hk; omega), ?_⟩
        · rw [Hds.out]; exact hown2
        · have := hgrow.size; simp at this; omega
      case measure => simp [intOf]; omega
    · obtain rfl : n = j := by omega
      obtain ⟨c0, c1, f0, f1, l1⟩ := k1.two
      obtain ⟨c2, c3, f2, f3, l2⟩ := k2.two
      have he := HE.out
      by_cases hbig : 2 ^ n ≤ v
      · rw [if_pos hbig] at he
        have HE2 := Lib.hid he
        have hpos := Nat.div_pos hbig (Nat.pow_pos (by omega))
        clear he
        generalize v / 2 ^ n = x at *
        go_wp2
        refine bodyPost_ret (v := .tuple #[.agg #[.slice A l c, .int .i64 m], .int .i64 6]) (by simp [results, Try.results16, go_sem, *]) rfl ?_
        rw [show addB s m v n = s from if_neg (by rw [HE2.out]; decide), show addM s m v n = m from if_neg (by rw [HE2.out]; decide), HE2.out]
        exact gives_says hs ⟨rfl, (hB.setCell (by simp) _).setCell (by simp) _⟩
      · rw [if_neg hbig] at he
        have hz0 := Nat.div_eq_of_lt (show v < 2 ^ n by omega)
        have HBig := Lib.hid (show v < 2 ^ n by omega)
        have HE2 := Lib.hid he
        have hsw := hs.below hB
        have hdl : (digL v n).length = n := digL_length v n
        have HD := Lib.hid (show ∀ i, i < n → ((digL v n).getD i 0).toNat = v / 2 ^ i % 2 from fun i hi => digL_get v hi)
        clear he hbig
        rw [hz0, show ((0 : Nat) : Int) = 0 from rfl]
        generalize digL v n = dl at *
        go_upto_region 11 with fail
        go_cut [10] (fun p W => OutRel wr l s m p W)
        case first =>
          have m1 : wr.heap.size ≠ w.heap.size := by omega
          have m2 : wr.heap.size + 1 ≠ w.heap.size := by omega
          go_region_held3 (fun w' => w'.cell? ⟨w.heap.size, 0, none⟩ = some (.slice A l c) ∧ w'.cell? ⟨w.heap.size, 1, none⟩ = some (.int .i64 m))
            (first
              | go_keep
              | fail)
            ((refine step_app2 rfl (.tmp 42) (.tmp 44) 22 rfl wr.heap.size 5 Try.underlying22 byte_info _ _ _ [] rfl (by first | exact own_empty wr _ _ (Nat.le_refl _) | exact (own_empty wr _ _ (Nat.le_refl _)).alloc _ | exact own_empty2 wr _ 5 wr.heap.size (Nat.le_refl _)) A l c s rfl (by first | exact hsw.alloc _ | exact (hsw.alloc _).alloc _) (by omega) (by simp <;> omega) ?_; intro A9 c9 w2 hown2 hgrow hat; have q0 : w2.cell? ⟨w.heap.size, 0, none⟩ = some (.slice A l c) := (by go_split_ands; rw [hgrow.cell_far _ (by simp; omega) (by simp [rowOf]; omega)]; assumption); have q1 : w2.cell? ⟨w.heap.size, 1, none⟩ = some (.int .i64 m) := (by go_split_ands; rw [hgrow.cell_far _ (by simp; omega) (by simp [rowOf]; omega)]; assumption); have r1 := (fun k i (h1 : k < _) (h2 : some k ≠ _) => hgrow.cell_far ⟨k, i, none⟩ h1 h2); have r2 := (fun k i (h1 : k < _) (h2 : some k ≠ _) => hgrow.frozen_far ⟨k, i, none⟩ h1 h2); simp only [rowOf, Option.map_some, World.size_drew, World.size_alloc] at r1 r2))
          · go_wp2_with fail
            go_meet
            exact outRel_new hown2 ((below1 _ _).drew.grown hgrow (by simp) (by intro k h; injection h with h; subst h; exact Nat.le_refl _))
          · go_wp2_with fail
            go_meet
            exact outRel_old2 hgrow hat hown2
          · go_wp2_with fail
            go_meet
            exact outRel_old3 hgrow hat hown2
        case rest =>
          generalize wr = wq at *
          obtain ⟨b, A9, c9, rfl, hb1, hne, k3, hown9, hbel⟩ := hcut
          have hlen := Hlen.out
          have hI : GrowInv w wq A A8 l c s m n v c8 b dl (.int .i64 ((n : Int) - 1)) wc := by
            have hg := growS_none v n Hr.out
            have hgl := growS_length s m v n 0
            refine ⟨0, A9, c9, Nat.zero_le _, by simp, ?_, ?_, hne, k1.call hbel, k2.call hbel, hown.bs.below hbel, hbel⟩
            · rw [show (m + 0 + 7) / 8 = l by rw [← hgl, ← hg, hlen]]
              simpa using k3
            · rw [show (m + 0 + 7) / 8 = l by rw [← hgl, ← hg, hlen], ← hg]
              exact hown9
          have hml : (m + 7) / 8 = l := by
            have h3 := (inkB_iff.1 Hr.out).2.1
            rw [Int.toNat_natCast] at h3
            omega
          have hrow8 := hown.row_lt
          have Hrow8 := Lib.hid hrow8
          have hwq : w.heap.size + 1 < wq.heap.size := l2
          clear hown9 k3 hbel hne c0 c1 c2 c3 f0 f1 f2 f3 l1 l2 hown hsw hz0 hlen hs k1 k2 hrow8
          go_wp2_with fail
          go_loopw [11] (fun i W => GrowInv w wq A A8 l c s m n v c8 b dl i W) (fun i _ => (intOf i + 1).toNat)
          case atStart => exact hI
          case round =>
            obtain ⟨j, A9, c9, hj2, rfl, k3, hown, hne, k1, k2, hdb, hbel⟩ := hrel
            clear hI
            by_cases hjn2 : j < n
            · have hst := grow_step s m v n j hjn2
              have hrl := roomS_length s m v n j
              obtain ⟨c4, c5', f4, f5, l3⟩ := k3.two
              obtain ⟨ii, hii⟩ : ∃ ii, n - 1 - j = ii := ⟨_, rfl⟩
              have hi2 : (n : Int) - 1 - j = (ii : Int) := by omega
              rw [hi2] at *
              clear hi2
              by_cases h8 : (m + j) % 8 = 0
              · have g8 : (((m : Int) + j) % 8 == 0) = true := by simp; omega
                have hbs : Bs (wr.alloc (.cells #[.int .u8 0] 5)) (some ⟨wr.heap.size, 0, none⟩) 1 1 [0] := Bs.lit1 wr 0 5
                have hneb : b ≠ w.heap.size := by omega
                have hneb2 : b ≠ w.heap.size + 1 := by omega
                have hr1 := hown.row_ne (b := w.heap.size) (by omega)
                have hr2 := hown.row_ne (b := w.heap.size + 1) (by omega)
                have hge := hown.row_ge
                have Hrl := Lib.hid hrl
                have Hst := Lib.hid hst
                clear hrl hst
                go_upto_region 17 with (at_builtin; go_loud (refine wpList_app2 rfl (.tmp 60) (.tmp 61) 22 rfl wq.heap.size 5 Try.underlying22 byte_info A9 ((m + j + 7) / 8) c9 (growS s m v n j) rfl (hown.alloc _) (some ⟨wr.heap.size, 0, none⟩) 1 1 [0] rfl hbs (by omega) (by have := hbel.size; simp; omega) ?_); intro A10 c10 w3 hown3 hgrow hat; have k3n := (k3.alloc (.cells #[.int .u8 0] 5)).grown hgrow hne; obtain ⟨z0, z1, z2, z3, z4⟩ := k3n.two)
                have hne10 : some b ≠ rowOf A10 := by
                  rcases hat with h | h
                  · rw [h]; exact hne
                  · rw [h]; simp; omega
                have hT : RoomInv w wq A A8 l c s m n v c8 b j dl (w3.setCell ⟨b, 0, none⟩ (.slice A10 ((m + j + 7) / 8 + 1) c10)) := by
                  have e1 : (m + j + 7) / 8 = (m + j) / 8 := by omega
                  refine ⟨A10, c10, ?_, ?_, hne10, ((k1.alloc _).grown hgrow hr1).other _ hneb, ((k2.alloc _).grown hgrow hr2).other _ hneb2, ?_, ?_⟩
                  · rw [show roomS s m v n j = growS s m v n j ++ [0] from if_pos h8, ← e1]
                    exact hown3.other2 _ hne10
                  · rw [← e1]
                    exact k3n.set 0 _ (by simp)
                  · refine ((hdb.alloc _).grown hgrow (fun hn e => ?_)).setOther _ z0 (by intro x e; cases e)
                    cases hA8 : rowOf A8 with
                    | none =>
                      obtain ⟨b8, o8, hA, _⟩ := hdb.at_ hn
                      rw [hA] at hA8
                      cases hA8
                    | some k =>
                      have h1 := Hrow8.out k hA8
                      have h3 := hge k (by rw [← e]; exact hA8)
                      omega
                  · exact ((hbel.alloc hbel.size _).grown hgrow (by have := hbel.size; simp; omega) (fun k hk => hge k hk)).setCell (by show wq.heap.size ≤ b; omega) _
                clear z0 z1 z2 z3 z4 k3n hat hgrow hown3 hbs g8 hne10 c4 c5' f4 f5 l3 hown hne k1 k2 k3 hdb hbel hr1 hr2 hge
                generalize w3.setCell ⟨b, 0, none⟩ (.slice A10 ((m + j + 7) / 8 + 1) c10) = w5 at *
                have hst := Hst.out
                obtain ⟨A5, c5, hownT, kT, hneT, k1, k2, hdT, hBT⟩ := hT
                have hn0 : 0 < n := by omega
                obtain ⟨b8, o8, hA8, _, hcd⟩ := hdT.at_ hn0
                have hcl := hcd ii (by omega)
                rw [HD.out ii (by omega)] at hcl
                rw [hii] at hst
                have hy : v / 2 ^ ii % 2 < 2 := by omega
                have hp8z : (m + j) / 8 ≤ 140737488355300 := by omega
                have hu8 : (m + j) % 8 ≤ 7 := by omega
                generalize v / 2 ^ ii % 2 = y at *
                obtain ⟨g5, rfl, _, _⟩ := hownT.form (by omega)
                have hbg : b ≠ g5 := fun e => hneT (by rw [e]; rfl)
                have hbg2 : g5 ≠ b := hbg.symm
                have hg5 := hownT.row_ge g5 rfl
                obtain ⟨c4, c5', f4, f5, l3⟩ := kT.two
                have e8 : ((m : Int) + j) % 8 = (((m + j) % 8 : Nat) : Int) := by omega
                have E8 := Lib.hid e8
                clear hcd e8
                go_wp2_with fail
                go_loop [12, 13] (fun x k => ∃ h : Nat, h ≤ 7 - (m + j) % 8 ∧ k = .int .i64 (h : Int) ∧ x = .int .u8 ((y * 2 ^ h : Nat) : Int)) (fun _ k => 7 - (intOf k).toNat)
                case atStart => exact ⟨0, Nat.zero_le _, by simp, by simp⟩
                case round =>
                  obtain ⟨h, hh, rfl, rfl⟩ := hrel
                  have hnx : y * 2 ^ (h + 1) = y * 2 ^ h * 2 := by rw [Nat.pow_succ, Nat.mul_assoc]
                  have hx128 : y * 2 ^ h ≤ 128 := by
                    have h3 : (2 : Nat) ^ h ≤ 2 ^ 7 := Nat.pow_le_pow_right (by omega) (by omega)
                    have h4 : y = 0 ∨ y = 1 := by omega
                    rcases h4 with h4 | h4 <;> rw [h4] <;> omega
                  by_cases hlt : h < 7 - (m + j) % 8
                  · have hx64 : y * 2 ^ h ≤ 64 := by
                      have h3 : (2 : Nat) ^ h ≤ 2 ^ 6 := Nat.pow_le_pow_right (by omega) (by omega)
                      have h4 : y = 0 ∨ y = 1 := by omega
                      rcases h4 with h4 | h4 <;> rw [h4] <;> omega
                    have Hnx := Lib.hid hnx
                    have hlt2 : (h : Int) < 7 - ((m : Int) + j) % 8 := by have := E8.out; omega
                    clear hnx hst
                    generalize y * 2 ^ h = x at *
                    go_wp2
                    go_round
                    case rel => exact ⟨h + 1, by omega, by go_num, by rw [Hnx.out, show ((x * 2 : Nat) : Int) = 2 * (x : Int) by omega]⟩
                    case measure => simp [intOf]; omega
                  · have eh : h = 7 - (m + j) % 8 := by omega
                    have hlt2 : ¬ ((h : Int) < 7 - ((m : Int) + j) % 8) := by have := E8.out; omega
                    clear hnx
                    rw [← eh] at hst
                    generalize y * 2 ^ h = x at *
                    generalize hp8 : (m + j) / 8 = p8 at *
                    have HP8 := Lib.hid hp8
                    have hcq := hownT.get (show p8 < p8 + 1 by omega)
                    obtain ⟨hst1, hst2⟩ := hst
                    have hst8 : ((roomS s m v n j).getD p8 0).toNat < 256 := byte_lt _ _
                    obtain ⟨_, hfz, hown2⟩ := Own.store (x := UInt8.ofNat (((roomS s m v n j).getD p8 0).toNat + x)) hownT (show p8 < p8 + 1 by omega)
                    rw [hst2, byteV_ofNat] at hown2
                    generalize ((roomS s m v n j).getD p8 0).toNat = q at *
                    have hv1 : ((q + x : Nat) : Int) % 256 = (q : Int) + x := by omega
                    rw [hv1] at hown2
                    clear hst2 hv1 hownT hp8 eh
                    go_wp2_with fail
                    have hx1 : 0 ≤ (p8 : Int) := by omega
                    have hx2 : (p8 : Int) < (p8 : Int) + 1 := by omega
                    have hx3 : (p8 : Int) < ((p8 + 1 : Nat) : Int) := by omega
                    have hx4 : (0 ≤ (p8 : Int) ∧ (p8 : Int) < ((p8 + 1 : Nat) : Int)) = True := by simp; omega
                    have hx5 : (0 ≤ (p8 : Int) ∧ (p8 : Int) < (p8 : Int) + 1) = True := by simp; omega
                    have hw1 : IntKind.i64.wrap (p8 : Int) = p8 := IntWalk.i64_in _ (by omega)
                    have hw2 : IntKind.u8.wrap ((q : Int) + x) = (q : Int) + x := by rw [IntKind.wrap_u8]; omega
                    go_still_tail 17, (by kernel_rfl)
                    clear hx1 hx2 hx3 hx4 hx5 hw1 hw2 c4 c5' f4 f5 hcl
                    change wpList _ _ _ _ _ w5.drew
                    replace k1 : Box w5.drew w.heap.size [Value.slice A l c, Value.int IntKind.i64 ↑m] := k1
                    replace k2 : Box w5.drew (w.heap.size + 1) [Value.slice none 0 0, Value.int IntKind.i64 0] := k2
                    replace kT : Box w5.drew b [.slice (some ⟨g5, 0, none⟩) (p8 + 1) c5, .int .i64 ((m : Int) + j)] := kT
                    replace hdT : Bs w5.drew A8 n c8 dl := hdT
                    replace hcq : w5.drew.cell? ⟨g5, p8, none⟩ = some (.int .u8 q) := hcq
                    replace hfz : w5.drew.frozen? ⟨g5, p8, none⟩ = false := hfz
                    replace hown2 : Own (w5.drew.setCell ⟨g5, p8, none⟩ (.int .u8 ((q : Int) + x))) wq.heap.size 5 (some ⟨g5, 0, none⟩) (p8 + 1) c5 (growS s m v n (j + 1)) := hown2
                    replace hBT := hBT.drew
                    clear l3
                    generalize w5.drew = w6 at *
                    obtain ⟨c4, c5', f4, f5, l3⟩ := kT.two
                    have q8 : rowOf A8 ≠ some g5 := fun e => by have := Hrow8.out g5 e; omega
                    have q9 : rowOf A8 ≠ some b := fun e => by have := Hrow8.out b e; omega
                    have q1 : g5 ≠ w.heap.size := by omega
                    have q2 : g5 ≠ w.heap.size + 1 := by omega
                    go_wp2
                    rw [← hA8]
                    clear hA8
                    go_roundw
                    case rel =>
                      refine ⟨j + 1, some ⟨g5, 0, none⟩, c5, by omega, ?_, ?_, ?_, hneT, (k1.other _ q1).other _ hneb, (k2.other _ q2).other _ hneb2, (hdT.setFar _ q8).setFar _ q9, (hBT.setCell (p := ⟨g5, p8, none⟩) hg5 _).setCell (p := ⟨b, 1, none⟩) hb1 _⟩
                      · rw [show (n : Int) - 1 - ((j + 1 : Nat) : Int) = (ii : Int) - 1 by omega]
                      · rw [show (m + (j + 1) + 7) / 8 = p8 + 1 by have := HP8.out; omega, show (m : Int) + ((j + 1 : Nat) : Int) = (m : Int) + j + 1 by omega]
                        exact (kT.other _ hbg2).set 1 _ (by simp)
                      · rw [show (m + (j + 1) + 7) / 8 = p8 + 1 by have := HP8.out; omega]
                        exact hown2.other2 _ hneT
                    case measure => simp [intOf] <;> omega
              · have g8 : (((m : Int) + j) % 8 == 0) = false := by simp; omega
                have hneb : b ≠ w.heap.size := by omega
                have hneb2 : b ≠ w.heap.size + 1 := by omega
                have e1 : (m + j + 7) / 8 = (m + j) / 8 + 1 := by omega
                have hT : RoomInv w wq A A8 l c s m n v c8 b j dl wr := by
                  rw [e1] at hown k3
                  exact ⟨A9, c9, by rw [show roomS s m v n j = growS s m v n j from if_neg h8]; exact hown, k3, hne, k1, k2, hdb, hbel⟩
                have Hst := Lib.hid hst
                clear hst hrl e1
                go_upto_region 17 with fail
                clear g8 c4 c5' f4 f5 l3 hown hne k1 k2 k3 hdb hbel
                generalize wr = w5 at *
                have hst := Hst.out
                obtain ⟨A5, c5, hownT, kT, hneT, k1, k2, hdT, hBT⟩ := hT
                have hn0 : 0 < n := by omega
                obtain ⟨b8, o8, hA8, _, hcd⟩ := hdT.at_ hn0
                have hcl := hcd ii (by omega)
                rw [HD.out ii (by omega)] at hcl
                rw [hii] at hst
                have hy : v / 2 ^ ii % 2 < 2 := by omega
                have hp8z : (m + j) / 8 ≤ 140737488355300 := by omega
                have hu8 : (m + j) % 8 ≤ 7 := by omega
                generalize v / 2 ^ ii % 2 = y at *
                obtain ⟨g5, rfl, _, _⟩ := hownT.form (by omega)
                have hbg : b ≠ g5 := fun e => hneT (by rw [e]; rfl)
                have hbg2 : g5 ≠ b := hbg.symm
                have hg5 := hownT.row_ge g5 rfl
                obtain ⟨c4, c5', f4, f5, l3⟩ := kT.two
                have e8 : ((m : Int) + j) % 8 = (((m + j) % 8 : Nat) : Int) := by omega
                have E8 := Lib.hid e8
                clear hcd e8
                go_wp2_with fail
                go_loop [12, 13] (fun x k => ∃ h : Nat, h ≤ 7 - (m + j) % 8 ∧ k = .int .i64 (h : Int) ∧ x = .int .u8 ((y * 2 ^ h : Nat) : Int)) (fun _ k => 7 - (intOf k).toNat)
                case atStart => exact ⟨0, Nat.zero_le _, by simp, by simp⟩
                case round =>
                  obtain ⟨h, hh, rfl, rfl⟩ := hrel
                  have hnx : y * 2 ^ (h + 1) = y * 2 ^ h * 2 := by rw [Nat.pow_succ, Nat.mul_assoc]
                  have hx128 : y * 2 ^ h ≤ 128 := by
                    have h3 : (2 : Nat) ^ h ≤ 2 ^ 7 := Nat.pow_le_pow_right (by omega) (by omega)
                    have h4 : y = 0 ∨ y = 1 := by omega
                    rcases h4 with h4 | h4 <;> rw [h4] <;> omega
                  by_cases hlt : h < 7 - (m + j) % 8
                  · have hx64 : y * 2 ^ h ≤ 64 := by
                      have h3 : (2 : Nat) ^ h ≤ 2 ^ 6 := Nat.pow_le_pow_right (by omega) (by omega)
                      have h4 : y = 0 ∨ y = 1 := by omega
                      rcases h4 with h4 | h4 <;> rw [h4] <;> omega
                    have Hnx := Lib.hid hnx
                    have hlt2 : (h : Int) < 7 - ((m : Int) + j) % 8 := by have := E8.out; omega
                    clear hnx hst
                    generalize y * 2 ^ h = x at *
                    go_wp2
                    go_round
                    case rel => exact ⟨h + 1, by omega, by go_num, by rw [Hnx.out, show ((x * 2 : Nat) : Int) = 2 * (x : Int) by omega]⟩
                    case measure => simp [intOf]; omega
                  · have eh : h = 7 - (m + j) % 8 := by omega
                    have hlt2 : ¬ ((h : Int) < 7 - ((m : Int) + j) % 8) := by have := E8.out; omega
                    clear hnx
                    rw [← eh] at hst
                    generalize y * 2 ^ h = x at *
                    generalize hp8 : (m + j) / 8 = p8 at *
                    have HP8 := Lib.hid hp8
                    have hcq := hownT.get (show p8 < p8 + 1 by omega)
                    obtain ⟨hst1, hst2⟩ := hst
                    have hst8 : ((roomS s m v n j).getD p8 0).toNat < 256 := byte_lt _ _
                    obtain ⟨_, hfz, hown2⟩ := Own.store (x := UInt8.ofNat (((roomS s m v n j).getD p8 0).toNat + x)) hownT (show p8 < p8 + 1 by omega)
                    rw [hst2, byteV_ofNat] at hown2
                    generalize ((roomS s m v n j).getD p8 0).toNat = q at *
                    have hv1 : ((q + x : Nat) : Int) % 256 = (q : Int) + x := by omega
                    rw [hv1] at hown2
                    clear hst2 hv1 hownT hp8 eh
                    go_wp2_with fail
                    have hx1 : 0 ≤ (p8 : Int) := by omega
                    have hx2 : (p8 : Int) < (p8 : Int) + 1 := by omega
                    have hx3 : (p8 : Int) < ((p8 + 1 : Nat) : Int) := by omega
                    have hx4 : (0 ≤ (p8 : Int) ∧ (p8 : Int) < ((p8 + 1 : Nat) : Int)) = True := by simp; omega
                    have hx5 : (0 ≤ (p8 : Int) ∧ (p8 : Int) < (p8 : Int) + 1) = True := by simp; omega
                    have hw1 : IntKind.i64.wrap (p8 : Int) = p8 := IntWalk.i64_in _ (by omega)
                    have hw2 : IntKind.u8.wrap ((q : Int) + x) = (q : Int) + x := by rw [IntKind.wrap_u8]; omega
                    go_still_tail 17, (by kernel_rfl)
                    clear hx1 hx2 hx3 hx4 hx5 hw1 hw2 c4 c5' f4 f5 hcl
                    change wpList _ _ _ _ _ w5.drew
                    replace k1 : Box w5.drew w.heap.size [Value.slice A l c, Value.int IntKind.i64 ↑m] := k1
                    replace k2 : Box w5.drew (w.heap.size + 1) [Value.slice none 0 0, Value.int IntKind.i64 0] := k2
                    replace kT : Box w5.drew b [.slice (some ⟨g5, 0, none⟩) (p8 + 1) c5, .int .i64 ((m : Int) + j)] := kT
                    replace hdT : Bs w5.drew A8 n c8 dl := hdT
                    replace hcq : w5.drew.cell? ⟨g5, p8, none⟩ = some (.int .u8 q) := hcq
                    replace hfz : w5.drew.frozen? ⟨g5, p8, none⟩ = false := hfz
                    replace hown2 : Own (w5.drew.setCell ⟨g5, p8, none⟩ (.int .u8 ((q : Int) + x))) wq.heap.size 5 (some ⟨g5, 0, none⟩) (p8 + 1) c5 (growS s m v n (j + 1)) := hown2
                    replace hBT := hBT.drew
                    clear l3
                    generalize w5.drew = w6 at *
                    obtain ⟨c4, c5', f4, f5, l3⟩ := kT.two
                    have q8 : rowOf A8 ≠ some g5 := fun e => by have := Hrow8.out g5 e; omega
                    have q9 : rowOf A8 ≠ some b := fun e => by have := Hrow8.out b e; omega
                    have q1 : g5 ≠ w.heap.size := by omega
                    have q2 : g5 ≠ w.heap.size + 1 := by omega
                    go_wp2
                    rw [← hA8]
                    clear hA8
                    go_roundw
                    case rel =>
                      refine ⟨j + 1, some ⟨g5, 0, none⟩, c5, by omega, ?_, ?_, ?_, hneT, (k1.other _ q1).other _ hneb, (k2.other _ q2).other _ hneb2, (hdT.setFar _ q8).setFar _ q9, (hBT.setCell (p := ⟨g5, p8, none⟩) hg5 _).setCell (p := ⟨b, 1, none⟩) hb1 _⟩
                      · rw [show (n : Int) - 1 - ((j + 1 : Nat) : Int) = (ii : Int) - 1 by omega]
                      · rw [show (m + (j + 1) + 7) / 8 = p8 + 1 by have := HP8.out; omega, show (m : Int) + ((j + 1 : Nat) : Int) = (m : Int) + j + 1 by omega]
                        exact (kT.other _ hbg2).set 1 _ (by simp)
                      · rw [show (m + (j + 1) + 7) / 8 = p8 + 1 by have := HP8.out; omega]
                        exact hown2.other2 _ hneT
                    case measure => simp [intOf] <;> omega
            · obtain rfl : n = j := by omega
              obtain ⟨c4, c5', f4, f5, l3⟩ := k3.two
              obtain ⟨c2, c3, f2, f3, l2⟩ := k2.two
              have hlast : ¬ (0 ≤ (n : Int) - 1 - n) := by omega
              have hB5 := hB.trans (hbel.mono hB.size)
              have hneb2 : w.heap.size + 1 ≠ b := by omega
              generalize hL : (m + n + 7) / 8 = L at *
              have HL := Lib.hid hL
              clear hL
              go_wp2
              refine bodyPost_ret (v := .tuple #[.agg #[.slice A9 L c9, .int .i64 ((m : Int) + n)], .int .i64 0]) (by simp [results, Try.results16, go_sem, *]) rfl ?_
              rw [show addB s m v n = addS s m v n by unfold addB; rw [if_pos HE2.out, Int.toNat_natCast, Int.toNat_natCast], show addM s m v n = (m : Int) + n from if_pos HE2.out, HE2.out]
              refine ⟨A9, c9, by rw [addS_length, HL.out], ?_, (hB5.setCell (by simp) _).setCell (by simp) _⟩
              rw [addS_length, HL.out, ← growS_all]
              exact hown.bs.box2 k2 _ _

end Go.Proofs.Ythkngjokbkfebaa
