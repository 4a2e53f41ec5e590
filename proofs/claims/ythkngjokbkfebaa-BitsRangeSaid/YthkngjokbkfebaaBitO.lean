/-
  What Add and AddRange write is new memory.
-/
import Derived.Test.YthkngjokbkfebaaBitG
import Derived.Test.YthkngjokbkfebaaApp
namespace Go.Proofs.Ythkngjokbkfebaa
open Go.RowKit

/-- What a call hands back: an ink of so many bytes, in new memory, and no error. -/
def GivesO (w : World) (q : Nat) (s : List UInt8) (m : Int) (x : Ending) (w' : World) : Prop :=
  ∃ A c, x = .returned (.tuple #[.agg #[.slice A q c, .int .i64 m], .int .i64 0]) ∧ Own w' w.heap.size 5 A q c s ∧ Below w.heap.size w w'

set_option maxRecDepth 100000 in
set_option maxHeartbeats 300000 in
theorem badd_own (A : Option Addr) (l c : Nat) (s : List UInt8) (m n v : Nat) (w : World) (hs : Bs w A l c s) (hl : l ≤ 140737488355328) (hr : inkB s m = true) (h2 : n ≤ 64) (h : v < 2 ^ n) (hv64 : v < 18446744073709551616) :
    Calls Try.prog 15 #[.agg #[.slice A l c, .int .i64 m], .int .u64 v, .int .i64 n] w (GivesO w ((m + n + 7) / 8) (addS s m v n) ((m : Int) + n)) := by
  have hlen := hs.len
  have hm8 : m ≤ 8 * l := by have := (inkB_iff.1 hr).2.1; rw [Int.toNat_natCast] at this; omega
  have R := Lib.hid (fun w hs => bright_is A l c s m w hs hl (by omega) true hr)
  have hz := Lib.hid (show decide (0 ≤ (n : Int) ∧ (n : Int) ≤ 64) = true by simp; omega)
  have g : ((v : Int) / 2 ^ n != 0) = false := by
    have := Nat.div_eq_of_lt h
    rw [show ((v : Int) / 2 ^ n) = ((v / 2 ^ n : Nat) : Int) by simp, this]
    rfl
  have Z := size_any (m + n)
  rw [Int.natCast_add] at Z
  replace Z := Lib.hid (fun w => Z w (by omega))
  have Hlen := Lib.hid hlen
  have Hr := Lib.hid hr
  have Hv := Lib.hid h
  clear h hr hlen
  go_enter Try.func15, Try.ntmps15
  go_wp2_with fail
  refine (R.out _ ((hs.alloc _).alloc _)).mono ?_
  rintro e w1 ⟨rfl, hW⟩
  have hB := (below2 w _ _).trans (hW.mono (by simp; omega))
  have k1 := ((Box.new w _ _).alloc _).call hW
  have k2 := (Box.new (w.alloc _) _ _).call hW
  rw [World.size_alloc] at k2
  obtain ⟨c0, c1, f0, f1, l1⟩ := k1.two
  obtain ⟨c2, c3, f2, f3, l2⟩ := k2.two
  clear hW
  go_wp2_with fail
  refine (bisSize_is _ _ true hz.out).mono ?_
  rintro e w' ⟨rfl, rfl⟩
  have M := make_zeros ((m + n + 7) / 8) (by omega)
  have hzle : (m + n + 7) / 8 ≤ 281474976710656 := by omega
  have hlz : l ≤ (m + n + 7) / 8 := by
    have := (inkB_iff.1 Hr.out).2.1
    rw [Int.toNat_natCast, Hlen.out] at this
    omega
  generalize hz8 : (m + n + 7) / 8 = z at *
  have Hz8 := Lib.hid hz8
  clear hz8
  go_upto_region 5 with fail
  go_cut [8] (fun p W => AddRel w1 z ((m : Int) + n) p W)
  case first =>
    have hwr : IntKind.i64.wrap ((m : Int) + n) = (m : Int) + n := IntWalk.i64_in _ (by omega)
    go_region_held3 (fun w' => w'.cell? ⟨w.heap.size, 1, none⟩ = some (.int .i64 m)) (go_keep) (first | (go_at_call 33; refine (Z.out _).mono ?_; rintro e w' ⟨rfl, rfl⟩))
    all_goals
      go_wp2_with fail
      go_meet
      first
        | exact addRel_row w1 z ((m : Int) + n) hzle
        | exact addRel_var w1 z ((m : Int) + n) hzle
  case rest =>
    obtain ⟨b, g8, rfl, hb1, hg1, hbg, k3, hown, hbw⟩ := hcut
    replace k1 := k1.below hbw l1
    replace k2 := k2.below hbw l2
    replace hB := hB.trans (hbw.mono hB.size)
    have hsw := hs.below hB
    have hl2 := Lib.hid l2
    have hB1 : w.heap.size ≤ w1.heap.size := by omega
    have n1 : g8 ≠ w.heap.size := by omega
    have n2 : g8 ≠ w.heap.size + 1 := by omega
    have n3 : b ≠ w.heap.size := by omega
    have n4 : b ≠ w.heap.size + 1 := by omega
    have n5 : w.heap.size ≠ b := by omega
    have n6 : w.heap.size + 1 ≠ b := by omega
    clear c0 c1 f0 f1 c2 c3 f2 f3 l1 l2 M Z hbw
    obtain ⟨c0, c1, f0, f1, l1⟩ := k1.two
    obtain ⟨c4, c5, f4, f5, l3⟩ := k3.two
    go_wp2_with ((with_reducible refine wpList_copyB rfl (.tmp 36) (.tmp 38) 22 22 rfl 5 Try.underlying22 byte_one w1.heap.size g8 z (List.replicate z 0) rfl hown A l c s rfl hsw hlz ?_); intro w2 hown2 hheap hsize2 hbel2; replace k1 := k1.heap (hheap _ n1.symm) (by omega); replace k2 := k2.heap (hheap _ n2.symm) (by omega); replace k3 := k3.heap (hheap _ hbg) (by omega); clear c0 c1 c4 c5 f0 f1 f4 f5 l1 l3; obtain ⟨c0, c1, f0, f1, l1⟩ := k1.two; obtain ⟨c4, c5, f4, f5, l3⟩ := k3.two)
    rw [show s ++ List.drop l (List.replicate z 0) = fillS s m v n 0 by rw [List.drop_replicate, ← Hz8.out, ← fillS_none v n Hr.out, Hlen.out]] at hown2
    have hI : AddInv w w1 A l c s m n v z b g8 (.int .u64 v) (.int .i64 ((m : Int) + n - 1)) w2 := ⟨0, Nat.zero_le _, by simp, by simp, k1, k2, k3, hown2, hB.trans (hbel2.mono hB1)⟩
    clear k1 k2 k3 hown2 hown hB hsw c0 c1 c4 c5 f0 f1 f4 f5 l1 l3 hheap hbel2 hsize2
    go_loopw [1, 9] (fun x i W => AddInv w w1 A l c s m n v z b g8 x i W) (fun _ i _ => (intOf i + 1 - m).toNat)
    case atStart => exact hI
    case round =>
      obtain ⟨j, hj, rfl, rfl, k1, k2, k3, hown, hB⟩ := hrel
      obtain ⟨c0, c1, f0, f1, l1⟩ := k1.two
      obtain ⟨c4, c5, f4, f5, l3⟩ := k3.two
      clear hI
      by_cases hjn : j < n
      · obtain ⟨p, hp⟩ : ∃ p : Nat, m + n - 1 - j = p := ⟨_, rfl⟩
        have hp2 : (m : Int) + n - 1 - j = (p : Int) := by omega
        rw [hp2] at *
        have hpz : p / 8 < z := by have := Hz8.out; omega
        have hcl := hown.get hpz
        obtain ⟨_, hfz, hown2⟩ := Own.store (x := UInt8.ofNat (((fillS s m v n j).getD (p / 8) 0).toNat ||| (v / 2 ^ j % 2) * 2 ^ (7 - p % 8))) hown hpz
        have hst := fill_step s m v n j hjn
        rw [hp] at hst
        rw [hst, byteV_ofNat] at hown2
        clear hst hown hp2
        have hq := byte_lt (fillS s m v n j) (p / 8)
        generalize ((fillS s m v n j).getD (p / 8) 0).toNat = q at *
        have hnx : v / 2 ^ (j + 1) = v / 2 ^ j / 2 := by rw [Nat.div_div_eq_div_mul, Nat.pow_succ]
        have hxv : v / 2 ^ j ≤ v := Nat.div_le_self _ _
        generalize v / 2 ^ j = x at *
        have Hnx := Lib.hid hnx
        have ha : bits .and .u64 (x : Int) 1 = ((x % 2 : Nat) : Int) := by
          have := u64_and_nat x 1 (by omega) (by omega)
          rwa [nat_mask1] at this
        have hb2 : x % 2 < 2 := by omega
        clear hnx
        generalize x % 2 = y at *
        go_wp2_with fail
        have hx1 : 0 ≤ (p : Int) / 8 := by omega
        have hx2 : (p : Int) / 8 < z := by omega
        have hx3 : ((p : Int) / 8).toNat = p / 8 := by omega
        have hx4 : 0 ≤ 7 - (p : Int) % 8 := by omega
        have hx5 : (7 - (p : Int) % 8).toNat = 7 - p % 8 := by omega
        have hw2 : IntKind.i64.wrap ((p : Int) % 8) = (p : Int) % 8 := IntWalk.i64_in _ (by omega)
        have hw0 : Int.tmod (p : Int) 8 = (p : Int) % 8 := Int.tmod_eq_emod_of_nonneg (by omega)
        have hw4 : IntKind.u8.wrap (y : Int) = y := by rw [IntKind.wrap_u8]; omega
        have hw3 : IntKind.i64.wrap (7 - (p : Int) % 8) = 7 - (p : Int) % 8 := IntWalk.i64_in _ (by omega)
        have hw1 : IntKind.i64.wrap ((p : Int) / 8) = (p : Int) / 8 := IntWalk.i64_in _ (by omega)
        go_still_tail 15, (by kernel_rfl)
        clear hw0 hw1 hw2 hw3 hw4 hx3 hx5 ha c0 c1 c4 c5 f0 f1 f4 f5
        have hval : bits .or .u8 (q : Int) (IntKind.u8.wrap ((y : Int) * 2 ^ (7 - p % 8))) = ((q ||| y * 2 ^ (7 - p % 8) : Nat) : Int) % 256 := or_step q y (p % 8) hq hb2 (by omega)
        rw [← hval] at hown2
        clear hval
        change wpList _ _ _ _ _ wr.drew
        replace k1 : Box wr.drew w.heap.size [Value.slice A l c, Value.int IntKind.i64 ↑m] := k1
        replace k2 : Box wr.drew (w.heap.size + 1) [Value.slice none 0 0, Value.int IntKind.i64 0] := k2
        replace k3 : Box wr.drew b [Value.slice (some { block := g8, off := 0 }) z z, Value.int IntKind.i64 ((m : Int) + n)] := k3
        replace hcl : wr.drew.cell? ⟨g8, p / 8, none⟩ = some (.int .u8 q) := hcl
        replace hfz : wr.drew.frozen? ⟨g8, p / 8, none⟩ = false := hfz
        replace hown2 : Own (wr.drew.setCell ⟨g8, p / 8, none⟩ (.int .u8 (bits .or .u8 (q : Int) (IntKind.u8.wrap ((y : Int) * 2 ^ (7 - p % 8)))))) w1.heap.size 5 (some ⟨g8, 0, none⟩) z z (fillS s m v n (j + 1)) := hown2
        replace hB : Below w.heap.size w wr.drew := hB.drew
        clear l1 l3
        generalize wr.drew = w3 at *
        go_wp2
        go_roundw
        case rel =>
          refine ⟨j + 1, by omega, ?_, ?_, k1.other _ n1, k2.other _ n2, k3.other _ hbg.symm, hown2, hB.setCell (by show w.heap.size ≤ g8; omega) _⟩
          · rw [show (m : Int) + n - 1 - ((j + 1 : Nat) : Int) = (p : Int) - 1 by omega]
          · rw [Hnx.out]; simp
        case measure => simp [intOf]; omega
      · obtain rfl : n = j := by omega
        obtain ⟨c2, c3, f2, f3, l2⟩ := k2.two
        have hlast : ¬ ((m : Int) ≤ (m : Int) + n - 1 - n) := by omega
        go_wp2
        refine bodyPost_ret (v := .tuple #[.agg #[.slice (some ⟨g8, 0, none⟩) z z, .int .i64 ((m : Int) + n)], .int .i64 0]) (by simp [results, Try.results15, go_sem, *]) rfl ⟨some ⟨g8, 0, none⟩, z, ?_, ?_, ?_⟩
        · rfl
        · rw [← fillS_all]
          exact ((hown.other _ n2.symm).other _ n2.symm).mono hB1
        · exact (hB.setCell (by simp) _).setCell (by simp) _

set_option maxRecDepth 100000 in
set_option maxHeartbeats 1000000 in
theorem baddr_own (A : Option Addr) (l c : Nat) (s : List UInt8) (m v n : Nat) (w : World) (hs : Bs w A l c s) (hl : l ≤ 140737488355328) (hr : inkB s m = true) (h1 : 1 ≤ n) (h2 : n ≤ 4294967296) (h : v < n) :
    Calls Try.prog 20 #[.agg #[.slice A l c, .int .i64 m], .int .u64 v, .int .u64 n] w (GivesO w ((m + rngN v n + 7) / 8) (addS s m (rngV v n) (rngN v n)) ((m : Int) + rngN v n)) := by
  have hlen := hs.len
  have hm8 : m ≤ 8 * l := by have := (inkB_iff.1 hr).2.1; rw [Int.toNat_natCast] at this; omega
  have R := Lib.hid (fun w hs => bright_is A l c s m w hs hl (by omega) true hr)
  have hz := Lib.hid (show decide (1 ≤ n ∧ n ≤ 4294967296) = true by simp; omega)
  have W := Lib.hid (fun w => widths_any n w h1 h2)
  have hfit := rngV_lt h1 h
  have g1 := wd_pos n
  have g2 := wd_le h1 h2
  have hml := md_le h1
  have hG := fun w hs => badd_own A l c s m (rngN v n) (rngV v n) w hs hl hr (by unfold rngN; split <;> omega) hfit (by unfold rngV; split <;> omega)
  have hN : rngN v n = if v < md n then wd n - 1 else wd n := rfl
  have hV : rngV v n = if v < md n then v else v + md n := rfl
  have hqn : md n ≤ n := hml.2.1
  clear hfit
  have hql : (m + rngN v n + 7) / 8 = (m + rngN v n + 7) / 8 := rfl
  generalize addS s m (rngV v n) (rngN v n) = r at *
  generalize (m + rngN v n + 7) / 8 = ql at *
  generalize rngV v n = rv at *
  generalize rngN v n = rn at *
  generalize md n = q at *
  generalize wd n = d at *
  obtain ⟨k, rfl⟩ : ∃ k, d = k + 1 := ⟨d - 1, by omega⟩
  by_cases hvq : v < q
  · rw [if_pos hvq] at hN hV
    rw [Nat.add_sub_cancel] at hN
    subst hN hV
    have G := Lib.hid hG
    clear hG
    clear hm8 hlen hml hql
    go_enter Try.func20, Try.ntmps20
    go_wp2_with fail
    refine (R.out _ ((hs.alloc _).alloc _)).mono ?_
    rintro e w1 ⟨rfl, hW⟩
    have hB := (below2 w _ _).trans (hW.mono (by simp; omega))
    have k1 := ((Box.new w _ _).alloc _).call hW
    have k2 := (Box.new (w.alloc _) _ _).call hW
    rw [World.size_alloc] at k2
    obtain ⟨c0, c1, f0, f1, l1⟩ := k1.two
    obtain ⟨c2, c3, f2, f3, l2⟩ := k2.two
    clear hW
    go_wp2_with fail
    refine (isRange_is _ _ true hz.out).mono ?_
    rintro e w' ⟨rfl, rfl⟩
    go_wp2_with fail
    refine (W.out _).mono ?_
    rintro e w2 ⟨rfl, hb⟩
    replace k1 := k1.call hb
    replace k2 := k2.call hb
    replace hB := hB.trans (hb.mono hB.size)
    clear hb c0 c1 f0 f1 l1 c2 c3 f2 f3 l2
    obtain ⟨c0, c1, f0, f1, l1⟩ := k1.two
    obtain ⟨c2, c3, f2, f3, l2⟩ := k2.two
    go_wp2_with fail
    have hsz2 := hB.size
    have l2old := l2
    refine (G.out _ (hs.below hB)).mono ?_
    rintro e w3 ⟨A3, c4, rfl, hbs, hb⟩
    replace k1 := k1.call hb
    replace k2 := k2.call hb
    replace hB := hB.trans (hb.mono hB.size)
    clear hb c0 c1 f0 f1 l1 c2 c3 f2 f3 l2
    obtain ⟨c0, c1, f0, f1, l1⟩ := k1.two
    obtain ⟨c2, c3, f2, f3, l2⟩ := k2.two
    have hrow := hbs.row_ne (b := w.heap.size + 1) l2old
    clear l2old
    go_wp2
    refine bodyPost_ret (v := .tuple #[.agg #[.slice A3 ql c4, .int .i64 ((m : Int) + rn)], .int .i64 0]) (by simp [results, Try.results20, go_sem, *]) rfl ⟨A3, c4, rfl, ((hbs.other2 _ hrow).other2 _ hrow).mono hsz2, (hB.setCell (by simp) _).setCell (by simp) _⟩
  · rw [if_neg hvq] at hN hV
    subst hN hV
    simp only [Int.natCast_add, show ((1 : Nat) : Int) = 1 from rfl] at hG ⊢
    have G := Lib.hid hG
    clear hG
    clear hm8 hlen hml hql
    go_enter Try.func20, Try.ntmps20
    go_wp2_with fail
    refine (R.out _ ((hs.alloc _).alloc _)).mono ?_
    rintro e w1 ⟨rfl, hW⟩
    have hB := (below2 w _ _).trans (hW.mono (by simp; omega))
    have k1 := ((Box.new w _ _).alloc _).call hW
    have k2 := (Box.new (w.alloc _) _ _).call hW
    rw [World.size_alloc] at k2
    obtain ⟨c0, c1, f0, f1, l1⟩ := k1.two
    obtain ⟨c2, c3, f2, f3, l2⟩ := k2.two
    clear hW
    go_wp2_with fail
    refine (isRange_is _ _ true hz.out).mono ?_
    rintro e w' ⟨rfl, rfl⟩
    go_wp2_with fail
    refine (W.out _).mono ?_
    rintro e w2 ⟨rfl, hb⟩
    replace k1 := k1.call hb
    replace k2 := k2.call hb
    replace hB := hB.trans (hb.mono hB.size)
    clear hb c0 c1 f0 f1 l1 c2 c3 f2 f3 l2
    obtain ⟨c0, c1, f0, f1, l1⟩ := k1.two
    obtain ⟨c2, c3, f2, f3, l2⟩ := k2.two
    go_wp2_with fail
    have hsz2 := hB.size
    have l2old := l2
    refine (G.out _ (hs.below hB)).mono ?_
    rintro e w3 ⟨A3, c4, rfl, hbs, hb⟩
    replace k1 := k1.call hb
    replace k2 := k2.call hb
    replace hB := hB.trans (hb.mono hB.size)
    clear hb c0 c1 f0 f1 l1 c2 c3 f2 f3 l2
    obtain ⟨c0, c1, f0, f1, l1⟩ := k1.two
    obtain ⟨c2, c3, f2, f3, l2⟩ := k2.two
    have hrow := hbs.row_ne (b := w.heap.size + 1) l2old
    clear l2old
    go_wp2
    refine bodyPost_ret (v := .tuple #[.agg #[.slice A3 ql c4, .int .i64 ((m : Int) + ((k : Int) + 1))], .int .i64 0]) (by simp [results, Try.results20, go_sem, *]) rfl ⟨A3, c4, rfl, ((hbs.other2 _ hrow).other2 _ hrow).mono hsz2, (hB.setCell (by simp) _).setCell (by simp) _⟩

end Go.Proofs.Ythkngjokbkfebaa
