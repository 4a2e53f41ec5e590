/-
  What the statement's own function 'read' comes to: numbers of any widths, and of any ranges, one behind the other.
-/
import Derived.Test.YtpalhllphnfpmaaBitW
import Derived.Test.YtpalhllphnfpmaaBitBackM
import Derived.Deep.RegionWith
namespace Go.Proofs.Ytpalhllphnfpmaa
open Go.RowKit

/-- Where reading stands: behind the first i numbers, or something was missing. -/
def ReadInv (w : World) (A : Option Addr) (l c N : Nat) (B : Nat → Bool) (d z : Nat → Nat) (s : Value) (W : World) : Prop :=
  ∃ (i : Nat) (a er : Int), i ≤ N ∧ s = .int .i64 (i : Int) ∧ Box W w.heap.size [.slice A l c, .int .i64 a, .int .i64 er] ∧ Box W (w.heap.size + 1) [.slice none 0 0, .int .i64 0, .int .i64 0] ∧
    ((er = 0 ∧ a = ((stM B d z i : Nat) : Int) ∧ stM B d z i ≤ 8 * l) ∨ (er = 2 ∧ 8 * l < stM B d z N)) ∧ Below w.heap.size w W
/-- What read hands back. -/
def ReadPost (w : World) (A : Option Addr) (l c N : Nat) (B : Nat → Bool) (d z : Nat → Nat) (e : Ending) (w' : World) : Prop :=
  ∃ a er : Int, e = .returned (.agg #[.slice A l c, .int .i64 a, .int .i64 er]) ∧ ((er = 0 ∧ a = ((stM B d z N : Nat) : Int) ∧ stM B d z N ≤ 8 * l) ∨ (er = 2 ∧ 8 * l < stM B d z N)) ∧ Below w.heap.size w w'

/-- A number was read: the reader behind it. -/
def VRel (w : World) (A : Option Addr) (l c : Nat) (xa xe : Int) (xv : Nat) (p : Value) (W : World) : Prop :=
  p = .int .u64 (xv : Int) ∧ Box W w.heap.size [.slice A l c, .int .i64 xa, .int .i64 xe] ∧ Box W (w.heap.size + 1) [.slice none 0 0, .int .i64 0, .int .i64 0] ∧ Below w.heap.size w W
theorem Sl.at_cell {w : World} {b o n c i : Nat} {xs : List Value} {x : Value} (h : Sl w (some ⟨b, o, none⟩) n c xs) (hx : xs[i]? = some x) : w.cell? ⟨b, o + i, none⟩ = some x := by
  obtain ⟨hi, rfl⟩ := List.getElem?_eq_some_iff.1 hx
  exact h.cells rfl i hi
/-- Numbers as values. -/
def u64V (n : Nat) : Value := .int .u64 (n : Int)

set_option maxRecDepth 100000 in
set_option maxHeartbeats 4000000 in
theorem read_any (A : Option Addr) (l c : Nat) (T : List UInt8) (P : Option Addr) (cp N : Nat) (D : Option Addr) (ld cd : Nat) (ds : List UInt8) (R : Option Addr) (lr cr : Nat) (bs : List Value) (B : Nat → Bool) (d z : Nat → Nat) (w : World)
    (hT : Bs w A l c T) (hP : Sl w P N cp ((List.range N).map fun i => u64V (valOf (B i) (d i) (z i)))) (hD : Bs w D ld cd ds) (hR : Sl w R lr cr bs)
    (hN : N ≤ 60) (hld : N ≤ ld) (hlr : N ≤ lr) (hl : l ≤ 100000) (hd : ∀ i, i < N → (ds.getD i 0).toNat = d i) (hB : ∀ i, i < N → bs[i]? = some (.bool (B i))) (hz : ∀ i, i < N → z i < 18446744073709551616)
    (hbits : ∀ p, p < 8 * T.length → bitAt T p = bitAt (stS B d z N) p) :
    Calls Try.prog 22 #[.agg #[.slice A l c, .int .i64 0, .int .i64 0], .slice P N cp, .slice D ld cd, .slice R lr cr] w (ReadPost w A l c N B d z) := by
  have hlen := hT.len
  have hI : ReadInv w A l c N B d z (.int .i64 0) ((w.alloc (.cells #[.slice A l c, .int .i64 0, .int .i64 0] 25)).alloc (.cells #[.slice none 0 0, .int .i64 0, .int .i64 0] 25)) := by
    refine ⟨0, 0, 0, Nat.zero_le _, rfl, (Box.new w _ _).alloc _, ?_, .inl ⟨rfl, rfl, Nat.zero_le _⟩, below2 _ _ _⟩
    have := Box.new (w.alloc (.cells #[.slice A l c, .int .i64 0, .int .i64 0] 25)) [.slice none 0 0, .int .i64 0, .int .i64 0] 25
    rw [World.size_alloc] at this
    exact this
  go_enter Try.func22, Try.ntmps22
  go_wp2_with fail
  go_loopw [9] (fun s W => ReadInv w A l c N B d z s W) (fun s _ => N - (intOf s).toNat)
  case atStart => exact hI
  case round =>
    obtain ⟨i, a, er, hi, rfl, k1, k2, hcase, hbel⟩ := hrel
    clear hI
    obtain ⟨c0, c1, c2, f0, f1, f2, l1⟩ := k1.three
    rcases hcase with ⟨rfl, rfl, hle⟩ | ⟨rfl, hcut⟩
    · by_cases hiN : i < N
      · have hTw := hT.below hbel
        have hPw := Sl.below hP hbel
        have hDw := hD.below hbel
        have hRw := Sl.below hR hbel
        obtain ⟨db, dO, rfl, _, hdc⟩ := hDw.at_ (by omega)
        have hdc1 := hdc i (by omega)
        rw [hd i hiN] at hdc1
        obtain ⟨rb, rO, rfl, _, hrc⟩ := hRw.at_ (by omega)
        have hrc1 := hrc i _ (hB i hiN)
        obtain ⟨pb, pO, rfl, _, hpc⟩ := hPw.at_ (by omega)
        have hpc1 := hpc i (u64V (valOf (B i) (d i) (z i))) (by rw [List.getElem?_map, List.getElem?_range hiN]; rfl)
        have hd255 : d i ≤ 255 := by have := byte_lt ds i; rw [hd i hiN] at this; omega
        have hrd := st_read (i := i) (N := N) hiN hbits (by rw [hlen]; exact hle) hd255 (hz i hiN)
        rw [hlen] at hrd
        have hmn : stM B d z (i + 1) ≤ stM B d z N := stM_mono hiN
        have HPC := Lib.hid (show ((List.range N).map fun i => u64V (valOf (B i) (d i) (z i)))[i]? = some (u64V (valOf (B i) (d i) (z i))) by rw [List.getElem?_map, List.getElem?_range hiN]; rfl)
        have Hmn := Lib.hid hmn
        have q1 : w.heap.size ≠ w.heap.size + 1 := by omega
        have hi0 : (0 : Int) ≤ (i : Int) := by omega
        have hi1 : (i : Int) < (ld : Int) := by omega
        have hi2 : (i : Int) < (lr : Int) := by omega
        have hi3 : (i : Int) < (N : Int) := by omega
        unfold u64V at hpc1
        clear hdc hrc hpc hmn hPw hDw hRw
        by_cases hb : B i = true
        · have hG : ∃ (xa xe : Int) (xv : Nat), (∀ w', Bs w' A l c T → Calls Try.prog 13 #[.agg #[.slice A l c, .int .i64 ((stM B d z i : Nat) : Int), .int .i64 0], .int .u64 ((d i : Int) + 1)] w' (Says w' (.tuple #[.agg #[.slice A l c, .int .i64 xa, .int .i64 xe], .int .u64 xv]))) ∧
              ((xe = 0 ∧ xa = ((stM B d z (i + 1) : Nat) : Int) ∧ xv = valOf (B i) (d i) (z i) ∧ stM B d z (i + 1) ≤ 8 * l) ∨ (xe = 2 ∧ 8 * l < stM B d z (i + 1))) := by
            refine ⟨brngA T ((stM B d z i : Nat) : Int) 0 (d i + 1), brngE T ((stM B d z i : Nat) : Int) 0 (d i + 1), brngV T ((stM B d z i : Nat) : Int) 0 (d i + 1), fun w' hT' => ?_, ?_⟩
            · have := brng_any A l c T ((stM B d z i : Nat) : Int) 0 (d i + 1) w' hT' (by omega)
              rw [Int.natCast_add, show ((1 : Nat) : Int) = 1 from rfl] at this
              exact this
            · rcases Nat.lt_or_ge (8 * l) (stM B d z (i + 1)) with h | h
              · exact .inr ⟨(hrd.1 hb).2 h, h⟩
              · obtain ⟨h1, h2, h3⟩ := (hrd.1 hb).1 h
                exact .inl ⟨h1, h2, h3, h⟩
          clear hrd
          rw [hb] at hrc1
          obtain ⟨xa, xe, xv, G, hx⟩ := hG
          generalize ha1 : stM B d z (i + 1) = a1 at *
          generalize hvv : valOf (B i) (d i) (z i) = vv at *
          generalize hdd : d i = dd at *
          generalize ha0 : ((stM B d z i : Nat) : Int) = a0 at *
          replace G := Lib.hid G
          have Ha1 := Lib.hid ha1
          clear ha1 hvv hdd ha0 hb hle hd hB hz hbits
          have hfacts := True.intro
          have hw1 : IntKind.u64.wrap (dd : Int) = dd := by rw [IntKind.wrap_u64]; omega
          have hw2 : IntKind.u64.wrap ((dd : Int) + 1) = (dd : Int) + 1 := by rw [IntKind.wrap_u64]; omega
          go_upto_region 6 with fail
          go_cut [10] (fun p W => VRel w A l c xa xe xv p W)
          case first =>
            go_region_with (go_at_call 13; refine (G.out wr.drew hTw).mono ?_; rintro e wQ ⟨rfl, hb⟩; have z1 : Box wQ w.heap.size [.slice A l c, .int .i64 a0, .int .i64 0] := Box.call (w := wr.drew) k1 hb; obtain ⟨y0, y1, y2, y3, y4, y5, _⟩ := z1.three)
            all_goals
              go_wp2_with fail
              go_meet
              exact ⟨rfl, z1.put3 _ _ _, ((Box.call (w := wr.drew) k2 hb).other (p := ⟨w.heap.size, 0, none⟩) _ q1 |>.other (p := ⟨w.heap.size, 1, none⟩) _ q1 |>.other (p := ⟨w.heap.size, 2, none⟩) _ q1), below_put3 (hbel.drew.trans (hb.mono hbel.size)) (Nat.le_refl _) _ _ _⟩
          case rest =>
            obtain ⟨rfl, k3, k4, hbel2⟩ := hcut
            have hpc2 : wc.cell? ⟨pb, pO + i, none⟩ = some (.int .u64 (vv : Int)) := Sl.at_cell (Sl.below hP hbel2) (HPC.out)
            clear hw1 hw2 c0 c1 c2 f0 f1 f2 l1 hdc1 hrc1
            obtain ⟨c0, c1, c2, f0, f1, f2, l1⟩ := k3.three
            rcases hx with ⟨rfl, rfl, rfl, hle2⟩ | ⟨rfl, hshort⟩
            · go_wp2
              go_roundw
              case rel => exact ⟨i + 1, _, _, by omega, by go_num, k3, k4, .inl ⟨rfl, by rw [Ha1.out], by rw [Ha1.out]; exact hle2⟩, hbel2⟩
              case measure => simp [intOf]; omega
            · go_wp2
              go_roundw
              case rel => exact ⟨i + 1, _, _, by omega, by go_num, k3, k4, .inr ⟨rfl, by have := Hmn.out; omega⟩, hbel2⟩
              case measure => simp [intOf]; omega
        · have hb2 : B i = false := by simpa using hb
          have hG : ∃ (xa xe : Int) (xv : Nat), (∀ w', Bs w' A l c T → Calls Try.prog 9 #[.agg #[.slice A l c, .int .i64 ((stM B d z i : Nat) : Int), .int .i64 0], .int .i64 ((d i : Int) % 65)] w' (Says w' (.tuple #[.agg #[.slice A l c, .int .i64 xa, .int .i64 xe], .int .u64 xv]))) ∧
              ((xe = 0 ∧ xa = ((stM B d z (i + 1) : Nat) : Int) ∧ xv = valOf (B i) (d i) (z i) ∧ stM B d z (i + 1) ≤ 8 * l) ∨ (xe = 2 ∧ 8 * l < stM B d z (i + 1))) := by
            refine ⟨bgetA l ((stM B d z i : Nat) : Int) 0 ((d i % 65 : Nat) : Int), bgetE l ((stM B d z i : Nat) : Int) 0 ((d i % 65 : Nat) : Int), bgetV T ((stM B d z i : Nat) : Int) 0 ((d i % 65 : Nat) : Int), fun w' hT' => ?_, ?_⟩
            · have := bget_any A l c T ((stM B d z i : Nat) : Int) 0 ((d i % 65 : Nat) : Int) w' hT' (by omega)
              rw [hlen] at this
              rw [show (d i : Int) % 65 = ((d i % 65 : Nat) : Int) by omega]
              exact this
            · rcases Nat.lt_or_ge (8 * l) (stM B d z (i + 1)) with h | h
              · exact .inr ⟨(hrd.2 hb2).2 h, h⟩
              · obtain ⟨h1, h2, h3⟩ := (hrd.2 hb2).1 h
                exact .inl ⟨h1, h2, h3, h⟩
          clear hrd hb
          rw [hb2] at hrc1
          obtain ⟨xa, xe, xv, G, hx⟩ := hG
          generalize ha1 : stM B d z (i + 1) = a1 at *
          generalize hvv : valOf (B i) (d i) (z i) = vv at *
          generalize hdd : d i = dd at *
          generalize ha0 : ((stM B d z i : Nat) : Int) = a0 at *
          replace G := Lib.hid G
          have Ha1 := Lib.hid ha1
          clear ha1 hvv hdd ha0 hb2 hle hd hB hz hbits
          have hfacts := True.intro
          have hw0 : Int.tmod (dd : Int) 65 = (dd : Int) % 65 := Int.tmod_eq_emod_of_nonneg (by omega)
          have hw1 : IntKind.i64.wrap (dd : Int) = dd := IntWalk.i64_in _ (by omega)
          have hw2 : IntKind.i64.wrap ((dd : Int) % 65) = (dd : Int) % 65 := IntWalk.i64_in _ (by omega)
          go_upto_region 7 with fail
          go_cut [10] (fun p W => VRel w A l c xa xe xv p W)
          case first =>
            go_region_with (go_at_call 9; refine (G.out wr.drew hTw).mono ?_; rintro e wQ ⟨rfl, hb⟩; have z1 : Box wQ w.heap.size [.slice A l c, .int .i64 a0, .int .i64 0] := Box.call (w := wr.drew) k1 hb; obtain ⟨y0, y1, y2, y3, y4, y5, _⟩ := z1.three)
            all_goals
              go_wp2_with fail
              go_meet
              exact ⟨rfl, z1.put3 _ _ _, ((Box.call (w := wr.drew) k2 hb).other (p := ⟨w.heap.size, 0, none⟩) _ q1 |>.other (p := ⟨w.heap.size, 1, none⟩) _ q1 |>.other (p := ⟨w.heap.size, 2, none⟩) _ q1), below_put3 (hbel.drew.trans (hb.mono hbel.size)) (Nat.le_refl _) _ _ _⟩
          case rest =>
            obtain ⟨rfl, k3, k4, hbel2⟩ := hcut
            have hpc2 : wc.cell? ⟨pb, pO + i, none⟩ = some (.int .u64 (vv : Int)) := Sl.at_cell (Sl.below hP hbel2) (HPC.out)
            clear hw0 hw1 hw2 c0 c1 c2 f0 f1 f2 l1 hdc1 hrc1
            obtain ⟨c0, c1, c2, f0, f1, f2, l1⟩ := k3.three
            rcases hx with ⟨rfl, rfl, rfl, hle2⟩ | ⟨rfl, hshort⟩
            · go_wp2
              go_roundw
              case rel => exact ⟨i + 1, _, _, by omega, by go_num, k3, k4, .inl ⟨rfl, by rw [Ha1.out], by rw [Ha1.out]; exact hle2⟩, hbel2⟩
              case measure => simp [intOf]; omega
            · go_wp2
              go_roundw
              case rel => exact ⟨i + 1, _, _, by omega, by go_num, k3, k4, .inr ⟨rfl, by have := Hmn.out; omega⟩, hbel2⟩
              case measure => simp [intOf]; omega
      · obtain rfl : N = i := by omega
        obtain ⟨c3, c4, c5, f3, f4, f5, l2⟩ := k2.three
        have ha : ((stM B d z N : Nat) : Int) = ((stM B d z N : Nat) : Int) := rfl
        have HL := Lib.hid hle
        clear hle hd hB hz hbits
        generalize ha0 : ((stM B d z N : Nat) : Int) = a0 at *
        have Ha0 := Lib.hid ha0
        clear ha0 ha
        go_wp2
        exact bodyPost_ret (v := .agg #[.slice A l c, .int .i64 a0, .int .i64 0]) (by simp [results, Try.results22, go_sem, *]) rfl ⟨a0, 0, rfl, .inl ⟨rfl, Ha0.out.symm, HL.out⟩, ((hbel.setCell (by simp) _).setCell (by simp) _).setCell (by simp) _⟩
    · obtain ⟨c3, c4, c5, f3, f4, f5, l2⟩ := k2.three
      have HC := Lib.hid hcut
      clear hcut hd hB hz hbits
      by_cases hiN : i < N
      all_goals
        go_wp2
        exact bodyPost_ret (v := .agg #[.slice A l c, .int .i64 a, .int .i64 2]) (by simp [results, Try.results22, go_sem, *]) rfl ⟨a, 2, rfl, .inr ⟨rfl, HC.out⟩, ((hbel.setCell (by simp) _).setCell (by simp) _).setCell (by simp) _⟩

end Go.Proofs.Ytpalhllphnfpmaa
