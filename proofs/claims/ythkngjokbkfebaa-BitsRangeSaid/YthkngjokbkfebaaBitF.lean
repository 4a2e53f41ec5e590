/-
  What the functions of package bits come to: Add.
-/
import Derived.Test.YthkngjokbkfebaaBitE
import Derived.Deep.RegionWith
import Derived.StillTailTactics
import Derived.Deep.DeepCutAuto
import Derived.Deep.RegionHeld3
namespace Go.Proofs.Ythkngjokbkfebaa
open Go.RowKit

/-- What a call hands back: an ink, and the number of an error. -/
def GivesI (w : World) (s : List UInt8) (m err : Int) (x : Ending) (w' : World) : Prop :=
  ∃ A c, x = .returned (.tuple #[.agg #[.slice A s.length c, .int .i64 m], .int .i64 err]) ∧ Bs w' A s.length c s ∧ Below w.heap.size w w'

set_option maxRecDepth 100000 in
set_option maxHeartbeats 1000000 in
theorem badd_arg (A : Option Addr) (l c : Nat) (s : List UInt8) (m n : Int) (v : Nat) (w : World) (hs : Bs w A l c s) (hl : l ≤ 140737488355328) (hm : m ≤ 9223372036854775807) (h : ¬ (inkB s m = true ∧ 0 ≤ n ∧ n ≤ 64)) :
    Calls Try.prog 15 #[.agg #[.slice A l c, .int .i64 m], .int .u64 v, .int .i64 n] w (Says w (.tuple #[.agg #[.slice A l c, .int .i64 m], .int .i64 1])) := by
  by_cases hr : inkB s m = true
  · have R := Lib.hid (fun w hs => bright_is A l c s m w hs hl hm true hr)
    have hz := Lib.hid (show decide (0 ≤ n ∧ n ≤ 64) = false by simp only [decide_eq_false_iff_not]; exact fun k => h ⟨hr, k⟩)
    clear h hr hm
    go_enter Try.func15, Try.ntmps15
    go_wp2_with fail
    refine (R.out _ ((hs.alloc _).alloc _)).mono ?_
    rintro e w1 ⟨rfl, hW⟩
    have hB := (below2 w _ _).trans (hW.mono (by simp; omega))
    have k1 := ((Box.new w _ _).alloc _).call hW
    have k2 := (Box.new (w.alloc _) _ _).call hW
    rw [World.size_alloc] at k2
    obtain ⟨c0, c1, f0, f1, l1⟩ := k1.two
    obtain ⟨c2, c3, f2, f3, l2⟩ := k2.two
    clear hW k1 k2
    go_wp2_with fail
    refine (bisSize_is _ _ false hz.out).mono ?_
    rintro e w' ⟨rfl, rfl⟩
    go_wp2
    refine bodyPost_ret (v := .tuple #[.agg #[.slice A l c, .int .i64 m], .int .i64 1]) (by simp [results, Try.results15, go_sem, *]) rfl ⟨rfl, ?_⟩
    exact (hB.setCell (by simp) _).setCell (by simp) _
  · have R := Lib.hid (fun w hs => bright_is A l c s m w hs hl hm false (by simpa using hr))
    clear h hr hm
    go_enter Try.func15, Try.ntmps15
    go_wp2_with fail
    refine (R.out _ ((hs.alloc _).alloc _)).mono ?_
    rintro e w1 ⟨rfl, hW⟩
    have hB := (below2 w _ _).trans (hW.mono (by simp; omega))
    have k1 := ((Box.new w _ _).alloc _).call hW
    have k2 := (Box.new (w.alloc _) _ _).call hW
    rw [World.size_alloc] at k2
    obtain ⟨c0, c1, f0, f1, l1⟩ := k1.two
    obtain ⟨c2, c3, f2, f3, l2⟩ := k2.two
    clear hW k1 k2
    go_wp2
    refine bodyPost_ret (v := .tuple #[.agg #[.slice A l c, .int .i64 m], .int .i64 1]) (by simp [results, Try.results15, go_sem, *]) rfl ⟨rfl, ?_⟩
    exact (hB.setCell (by simp) _).setCell (by simp) _

set_option maxRecDepth 100000 in
set_option maxHeartbeats 1000000 in
theorem badd_field (A : Option Addr) (l c : Nat) (s : List UInt8) (m : Int) (n v : Nat) (w : World) (hs : Bs w A l c s) (hl : l ≤ 140737488355328) (hm : m ≤ 9223372036854775807) (hr : inkB s m = true) (h2 : n ≤ 64) (h : 2 ^ n ≤ v) :
    Calls Try.prog 15 #[.agg #[.slice A l c, .int .i64 m], .int .u64 v, .int .i64 n] w (Says w (.tuple #[.agg #[.slice A l c, .int .i64 m], .int .i64 6])) := by
  have R := Lib.hid (fun w hs => bright_is A l c s m w hs hl hm true hr)
  have hz := Lib.hid (show decide (0 ≤ (n : Int) ∧ (n : Int) ≤ 64) = true by simp; omega)
  have g : ((v : Int) / 2 ^ n != 0) = true := by
    rw [bne_iff_ne, show ((v : Int) / 2 ^ n) = ((v / 2 ^ n : Nat) : Int) by simp]
    have := Nat.div_pos h (Nat.pow_pos (by omega))
    omega
  clear h hr hm
  go_enter Try.func15, Try.ntmps15
  go_wp2_with fail
  refine (R.out _ ((hs.alloc _).alloc _)).mono ?_
  rintro e w1 ⟨rfl, hW⟩
  have hB := (below2 w _ _).trans (hW.mono (by simp; omega))
  have k1 := ((Box.new w _ _).alloc _).call hW
  have k2 := (Box.new (w.alloc _) _ _).call hW
  rw [World.size_alloc] at k2
  obtain ⟨c0, c1, f0, f1, l1⟩ := k1.two
  obtain ⟨c2, c3, f2, f3, l2⟩ := k2.two
  clear hW k1 k2
  go_wp2_with fail
  refine (bisSize_is _ _ true hz.out).mono ?_
  rintro e w' ⟨rfl, rfl⟩
  go_wp2
  refine bodyPost_ret (v := .tuple #[.agg #[.slice A l c, .int .i64 m], .int .i64 6]) (by simp [results, Try.results15, go_sem, *]) rfl ⟨rfl, ?_⟩
  exact (hB.setCell (by simp) _).setCell (by simp) _

theorem byte_info : (Try.prog.info? 5).map (fun i => (i.zero, i.size, i.bytes)) = some (some (.int .u8 0), 1, 1) := by kernel_rfl
theorem byte_one : (Try.prog.info? 5).map (·.size) = some 1 := by kernel_rfl
/-- The cells of z zero bytes. -/
def zeroRow (z : Nat) : Array Value := ((List.replicate z (0 : UInt8)).map byteV).toArray
theorem make_zeros (z : Nat) (hz : z ≤ 281474976710656) (W : World) :
    (Instr.makeSlice 22 (.int .i64 (z : Int)) (.int .i64 (z : Int))).run Try.prog W = .ok (.slice (some ⟨W.heap.size, 0, none⟩) z z) (W.alloc (.cells (zeroRow z) 5)) := by
  obtain ⟨i0, hi0, hz0, hz1, hz2⟩ := info_parts byte_info
  have := run_make (P := Try.prog) W 22 5 i0 (.int .u8 0) Try.underlying22 hi0 hz0 .i64 .i64 z z (by omega) (by omega) (by rw [hz2]; omega) (by omega)
  rw [hz1, Int.toNat_natCast, show (Value.int IntKind.u8 0).cells = #[.int .u8 0] from rfl, Nat.mul_one] at this
  rw [this]
  unfold zeroRow
  congr 3
  apply Array.toList_inj.1
  rw [toList_madeCells_one]
  simp [byteV]

/-- What stands behind the making of new room: the new ink's variable, and its bytes. -/
def AddRel (w1 : World) (z : Nat) (mn : Int) (p : Value) (W : World) : Prop :=
  ∃ b g, p = .pointer (some ⟨b, 0, none⟩) ∧ w1.heap.size ≤ b ∧ w1.heap.size ≤ g ∧ b ≠ g ∧ Box W b [.slice (some ⟨g, 0, none⟩) z z, .int .i64 mn] ∧ Own W w1.heap.size 5 (some ⟨g, 0, none⟩) z z (List.replicate z 0) ∧ Below w1.heap.size w1 W

theorem addRel_row (w1 : World) (z : Nat) (mn : Int) (hz : z ≤ 281474976710656) :
    AddRel w1 z mn (.pointer (some ⟨w1.heap.size + 1, 0, none⟩)) ((w1.alloc (.cells (zeroRow z) 5)).alloc (.cells #[.slice (some ⟨w1.heap.size, 0, none⟩) z z, .int .i64 mn] 27)).drew := by
  refine ⟨w1.heap.size + 1, w1.heap.size, rfl, by omega, by omega, by omega, ?_, ?_, (below2 _ _ _).drew⟩
  · have := Box.new (w1.alloc (.cells (zeroRow z) 5)) [.slice (some ⟨w1.heap.size, 0, none⟩) z z, .int .i64 mn] 27
    rw [World.size_alloc] at this
    exact this
  · have := World.ownsRow_lit (base := w1.heap.size) (e := 5) (size := 1) w1 (zeroRow z) z (Nat.le_refl _) (by simp only [maxLen]; omega) (by simp [zeroRow])
    exact this.alloc _
theorem addRel_var (w1 : World) (z : Nat) (mn : Int) (hz : z ≤ 281474976710656) :
    AddRel w1 z mn (.pointer (some ⟨w1.heap.size, 0, none⟩)) ((w1.alloc (.cells #[.slice (some ⟨w1.heap.size + 1, 0, none⟩) z z, .int .i64 mn] 27)).alloc (.cells (zeroRow z) 5)).drew := by
  refine ⟨w1.heap.size, w1.heap.size + 1, rfl, by omega, by omega, by omega, ?_, ?_, (below2 _ _ _).drew⟩
  · exact (Box.new w1 [.slice (some ⟨w1.heap.size + 1, 0, none⟩) z z, .int .i64 mn] 27).alloc _
  · have := World.ownsRow_lit (base := w1.heap.size) (e := 5) (size := 1) (w1.alloc (.cells #[.slice (some ⟨w1.heap.size + 1, 0, none⟩) z z, .int .i64 mn] 27)) (zeroRow z) z (by simp) (by simp only [maxLen]; omega) (by simp [zeroRow])
    rw [World.size_alloc] at this
    exact this

theorem or_step (q y e : Nat) (hq : q < 256) (hy : y < 2) (he : e < 8) : bits .or .u8 (q : Int) (IntKind.u8.wrap ((y : Int) * 2 ^ (7 - e))) = ((q ||| y * 2 ^ (7 - e) : Nat) : Int) % 256 := by
  have hp : (2 : Nat) ^ (7 - e) ≤ 128 := Nat.pow_le_pow_right (n := 2) (j := 7) (by omega) (by omega)
  have ht : y * 2 ^ (7 - e) < 256 := by
    have : y = 0 ∨ y = 1 := by omega
    rcases this with rfl | rfl <;> omega
  have e1 : (y : Int) * 2 ^ (7 - e) = ((y * 2 ^ (7 - e) : Nat) : Int) := by simp
  rw [e1]
  generalize y * 2 ^ (7 - e) = t at *
  have e2 : IntKind.u8.wrap (t : Int) = t := by rw [IntKind.wrap_u8]; omega
  have hor := Nat.or_lt_two_pow (n := 8) hq ht
  rw [e2, u8_or_nat _ _ hq ht]
  omega

/-- What holds while the bits are written: j of them are. -/
def AddInv (w w1 : World) (A : Option Addr) (l c : Nat) (s : List UInt8) (m n v z b g : Nat) (x i : Value) (W : World) : Prop :=
  ∃ j, j ≤ n ∧ i = .int .i64 ((m : Int) + n - 1 - j) ∧ x = .int .u64 ((v / 2 ^ j : Nat) : Int) ∧
    Box W w.heap.size [.slice A l c, .int .i64 m] ∧ Box W (w.heap.size + 1) [.slice none 0 0, .int .i64 0] ∧ Box W b [.slice (some ⟨g, 0, none⟩) z z, .int .i64 ((m : Int) + n)] ∧
    Own W w1.heap.size 5 (some ⟨g, 0, none⟩) z z (fillS s m v n j) ∧ Below w.heap.size w W

set_option maxRecDepth 100000 in
set_option maxHeartbeats 300000 in
theorem badd_main (A : Option Addr) (l c : Nat) (s : List UInt8) (m n v : Nat) (w : World) (hs : Bs w A l c s) (hl : l ≤ 140737488355328) (hr : inkB s m = true) (h2 : n ≤ 64) (h : v < 2 ^ n) (hv64 : v < 18446744073709551616) :
    Calls Try.prog 15 #[.agg #[.slice A l c, .int .i64 m], .int .u64 v, .int .i64 n] w (GivesI w (addS s m v n) ((m : Int) + n) 0) := by
  have hlen := hs.len
  have hm8 : m ≤ 8 * l := by have := (inkB_iff.1 hr).2.1; rw [Int.toNat_natCast] at this; omega
  have R := Lib.hid (fun w hs => bright_is A l c s m w hs hl (by omega) true hr)
  have hz := Lib.hid (show decide (0 ≤ (n : Int) ∧ (n : Int) ≤ 64) = true by simp; omega)
  have g : ((v : Int) / 2 ^ n != 0) = false := by
    have := Nat.div_eq_of_lt h
    rw [show ((v : Int) / 2 ^ n) = ((v / 2 ^ n : Nat) : Int) by simp, this]
    rfl
  have Z := size_any (m + n)
  rw [Int.natCast_add] at Z
  replace Z := Lib.hid (fun w => Z w (by omega))
  have Hlen := Lib.hid hlen
  have Hr := Lib.hid hr
  have Hv := Lib.hid h
  clear h hr hlen
  go_enter Try.func15, Try.ntmps15
  go_wp2_with fail
  refine (R.out _ ((hs.alloc _).alloc _)).mono ?_
  rintro e w1 ⟨rfl, hW⟩
  have hB := (below2 w _ _).trans (hW.mono (by simp; omega))
  have k1 := ((Box.new w _ _).alloc _).call hW
  have k2 := (Box.new (w.alloc _) _ _).call hW
  rw [World.size_alloc] at k2
  obtain ⟨c0, c1, f0, f1, l1⟩ := k1.two
  obtain ⟨c2, c3, f2, f3, l2⟩ := k2.two
  clear hW
  go_wp2_with fail
  refine (bisSize_is _ _ true hz.out).mono ?_
  rintro e w' ⟨rfl, rfl⟩
  have M := make_zeros ((m + n + 7) / 8) (by omega)
  have hzle : (m + n + 7) / 8 ≤ 281474976710656 := by omega
  have hlz : l ≤ (m + n + 7) / 8 := by
    have := (inkB_iff.1 Hr.out).2.1
    rw [Int.toNat_natCast, Hlen.out] at this
    omega
  generalize hz8 : (m + n + 7) / 8 = z at *
  have Hz8 := Lib.hid hz8
  clear hz8
  go_upto_region 5 with fail
  go_cut [8] (fun p W => AddRel w1 z ((m : Int) + n) p W)
  case first =>
    have hwr : IntKind.i64.wrap ((m : Int) + n) = (m : Int) + n := IntWalk.i64_in _ (by omega)
    go_region_held3 (fun w' => w'.cell? ⟨w.heap.size, 1, none⟩ = some (.int .i64 m)) (go_keep) (first | (go_at_call 33; refine (Z.out _).mono ?_; rintro e w' ⟨rfl, rfl⟩))
    all_goals
      go_wp2_with fail
      go_meet
      first
        | exact addRel_row w1 z ((m : Int) + n) hzle
        | exact addRel_var w1 z ((m : Int) + n) hzle
  case rest =>
    obtain ⟨b, g8, rfl, hb1, hg1, hbg, k3, hown, hbw⟩ := hcut
    replace k1 := k1.below hbw l1
    replace k2 := k2.below hbw l2
    replace hB := hB.trans (hbw.mono hB.size)
    have hsw := hs.below hB
    have hl2 := Lib.hid l2
    have hB1 : w.heap.size ≤ w1.heap.size := by omega
    have n1 : g8 ≠ w.heap.size := by omega
    have n2 : g8 ≠ w.heap.size + 1 := by omega
    have n3 : b ≠ w.heap.size := by omega
    have n4 : b ≠ w.heap.size + 1 := by omega
    have n5 : w.heap.size ≠ b := by omega
    have n6 : w.heap.size + 1 ≠ b := by omega
    clear c0 c1 f0 f1 c2 c3 f2 f3 l1 l2 M Z hbw
    obtain ⟨c0, c1, f0, f1, l1⟩ := k1.two
    obtain ⟨c4, c5, f4, f5, l3⟩ := k3.two
    go_wp2_with ((with_reducible refine wpList_copyB rfl (.tmp 36) (.tmp 38) 22 22 rfl 5 Try.underlying22 byte_one w1.heap.size g8 z (List.replicate z 0) rfl hown A l c s rfl hsw hlz ?_); intro w2 hown2 hheap hsize2 hbel2; replace k1 := k1.heap (hheap _ n1.symm) (by omega); replace k2 := k2.heap (hheap _ n2.symm) (by omega); replace k3 := k3.heap (hheap _ hbg) (by omega); clear c0 c1 c4 c5 f0 f1 f4 f5 l1 l3; obtain ⟨c0, c1, f0, f1, l1⟩ := k1.two; obtain ⟨c4, c5, f4, f5, l3⟩ := k3.two)
    rw [show s ++ List.drop l (List.replicate z 0) = fillS s m v n 0 by rw [List.drop_replicate, ← Hz8.out, ← fillS_none v n Hr.out, Hlen.out]] at hown2
    have hI : AddInv w w1 A l c s m n v z b g8 (.int .u64 v) (.int .i64 ((m : Int) + n - 1)) w2 := ⟨0, Nat.zero_le _, by simp, by simp, k1, k2, k3, hown2, hB.trans (hbel2.mono hB1)⟩
    clear k1 k2 k3 hown2 hown hB hsw c0 c1 c4 c5 f0 f1 f4 f5 l1 l3 hheap hbel2 hsize2
    go_loopw [1, 9] (fun x i W => AddInv w w1 A l c s m n v z b g8 x i W) (fun _ i _ => (intOf i + 1 - m).toNat)
    case atStart => exact hI
    case round =>
      obtain ⟨j, hj, rfl, rfl, k1, k2, k3, hown, hB⟩ := hrel
      obtain ⟨c0, c1, f0, f1, l1⟩ := k1.two
      obtain ⟨c4, c5, f4, f5, l3⟩ := k3.two
      clear hI
      by_cases hjn : j < n
      · obtain ⟨p, hp⟩ : ∃ p : Nat, m + n - 1 - j = p := ⟨_, rfl⟩
        have hp2 : (m : Int) + n - 1 - j = (p : Int) := by omega
        rw [hp2] at *
        have hpz : p / 8 < z := by have := Hz8.out; omega
        have hcl := hown.get hpz
        obtain ⟨_, hfz, hown2⟩ := Own.store (x := UInt8.ofNat (((fillS s m v n j).getD (p / 8) 0).toNat ||| (v / 2 ^ j % 2) * 2 ^ (7 - p % 8))) hown hpz
        have hst := fill_step s m v n j hjn
        rw [hp] at hst
        rw [hst, byteV_ofNat] at hown2
        clear hst hown hp2
        have hq := byte_lt (fillS s m v n j) (p / 8)
        generalize ((fillS s m v n j).getD (p / 8) 0).toNat = q at *
        have hnx : v / 2 ^ (j + 1) = v / 2 ^ j / 2 := by rw [Nat.div_div_eq_div_mul, Nat.pow_succ]
        have hxv : v / 2 ^ j ≤ v := Nat.div_le_self _ _
        generalize v / 2 ^ j = x at *
        have Hnx := Lib.hid hnx
        have ha : bits .and .u64 (x : Int) 1 = ((x % 2 : Nat) : Int) := by
          have := u64_and_nat x 1 (by omega) (by omega)
          rwa [nat_mask1] at this
        have hb2 : x % 2 < 2 := by omega
        clear hnx
        generalize x % 2 = y at *
        go_wp2_with fail
        have hx1 : 0 ≤ (p : Int) / 8 := by omega
        have hx2 : (p : Int) / 8 < z := by omega
        have hx3 : ((p : Int) / 8).toNat = p / 8 := by omega
        have hx4 : 0 ≤ 7 - (p : Int) % 8 := by omega
        have hx5 : (7 - (p : Int) % 8).toNat = 7 - p % 8 := by omega
        have hw2 : IntKind.i64.wrap ((p : Int) % 8) = (p : Int) % 8 := IntWalk.i64_in _ (by omega)
        have hw0 : Int.tmod (p : Int) 8 = (p : Int) % 8 := Int.tmod_eq_emod_of_nonneg (by omega)
        have hw4 : IntKind.u8.wrap (y : Int) = y := by rw [IntKind.wrap_u8]; omega
        have hw3 : IntKind.i64.wrap (7 - (p : Int) % 8) = 7 - (p : Int) % 8 := IntWalk.i64_in _ (by omega)
        have hw1 : IntKind.i64.wrap ((p : Int) / 8) = (p : Int) / 8 := IntWalk.i64_in _ (by omega)
        go_still_tail 15, (by kernel_rfl)
        clear hw0 hw1 hw2 hw3 hw4 hx3 hx5 ha c0 c1 c4 c5 f0 f1 f4 f5
        have hval : bits .or .u8 (q : Int) (IntKind.u8.wrap ((y : Int) * 2 ^ (7 - p % 8))) = ((q ||| y * 2 ^ (7 - p % 8) : Nat) : Int) % 256 := or_step q y (p % 8) hq hb2 (by omega)
        rw [← hval] at hown2
        clear hval
        change wpList _ _ _ _ _ wr.drew
        replace k1 : Box wr.drew w.heap.size [Value.slice A l c, Value.int IntKind.i64 ↑m] := k1
        replace k2 : Box wr.drew (w.heap.size + 1) [Value.slice none 0 0, Value.int IntKind.i64 0] := k2
        replace k3 : Box wr.drew b [Value.slice (some { block := g8, off := 0 }) z z, Value.int IntKind.i64 ((m : Int) + n)] := k3
        replace hcl : wr.drew.cell? ⟨g8, p / 8, none⟩ = some (.int .u8 q) := hcl
        replace hfz : wr.drew.frozen? ⟨g8, p / 8, none⟩ = false := hfz
        replace hown2 : Own (wr.drew.setCell ⟨g8, p / 8, none⟩ (.int .u8 (bits .or .u8 (q : Int) (IntKind.u8.wrap ((y : Int) * 2 ^ (7 - p % 8)))))) w1.heap.size 5 (some ⟨g8, 0, none⟩) z z (fillS s m v n (j + 1)) := hown2
        replace hB : Below w.heap.size w wr.drew := hB.drew
        clear l1 l3
        generalize wr.drew = w3 at *
        go_wp2
        go_roundw
        case rel =>
          refine ⟨j + 1, by omega, ?_, ?_, k1.other _ n1, k2.other _ n2, k3.other _ hbg.symm, hown2, hB.setCell (by show w.heap.size ≤ g8; omega) _⟩
          · rw [show (m : Int) + n - 1 - ((j + 1 : Nat) : Int) = (p : Int) - 1 by omega]
          · rw [Hnx.out]; simp
        case measure => simp [intOf]; omega
      · obtain rfl : n = j := by omega
        obtain ⟨c2, c3, f2, f3, l2⟩ := k2.two
        have hlast : ¬ ((m : Int) ≤ (m : Int) + n - 1 - n) := by omega
        go_wp2
        refine bodyPost_ret (v := .tuple #[.agg #[.slice (some ⟨g8, 0, none⟩) z z, .int .i64 ((m : Int) + n)], .int .i64 0]) (by simp [results, Try.results15, go_sem, *]) rfl ⟨some ⟨g8, 0, none⟩, z, ?_, ?_, ?_⟩
        · rw [addS_length, Hz8.out]
        · rw [addS_length, Hz8.out, ← fillS_all]
          exact ((hown.other _ n2.symm).other _ n2.symm).bs
        · exact (hB.setCell (by simp) _).setCell (by simp) _

end Go.Proofs.Ythkngjokbkfebaa
