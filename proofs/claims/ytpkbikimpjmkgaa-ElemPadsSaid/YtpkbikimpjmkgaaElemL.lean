/-
  Layer 8's fixed answers: 'awake' is true, under the contracts of package elem's calls.
-/
import Derived.Test.YtpkbikimpjmkgaaElemK
namespace Go.Proofs.Ytpkbikimpjmkgaa
open Go.RowKit
set_option linter.unusedVariables false
set_option linter.unusedSimpArgs false

section
variable (KC : ElemCalls)
include KC
set_option maxRecDepth 100000 in
set_option maxHeartbeats 4000000 in
theorem awake_any (w : World) :
    Calls Try.prog 6 #[] w fun e w' => e = .returned (.bool true) ∧ Below w.heap.size w w' := by
  have a1 := bs_lit w [7, 8] (List.map byteV [7, 8]).toArray 5 rfl (by decide)
  have a2 := SlK.lit (k := 2) (w.alloc (.cells (List.map byteV [7, 8]).toArray 5)) #[.int .i64 1, .slice (some ⟨w.heap.size, 0, none⟩) 2 2] 49 1 (by decide) rfl
  have hB := (below1 w (.cells (List.map byteV [7, 8]).toArray 5)).alloc (by simp) (.cells #[.int .i64 1, .slice (some ⟨w.heap.size, 0, none⟩) 2 2] 49)
  have a3 : ElOk ((w.alloc (.cells (List.map byteV [7, 8]).toArray 5)).alloc (.cells #[.int .i64 1, .slice (some ⟨w.heap.size, 0, none⟩) 2 2] 49)) (some ⟨(w.alloc (.cells (List.map byteV [7, 8]).toArray 5)).heap.size, 0, none⟩) 1 1 l8a := by
    refine ⟨⟨[⟨1, some ⟨w.heap.size, 0, none⟩, 2, 2, [7, 8]⟩], rfl, a2, ?_⟩, by decide, by decide, by decide⟩
    intro e he
    rw [List.mem_singleton] at he
    subst he
    exact a1.alloc _
  rw [World.size_alloc] at a3
  have HW := KC.write _ 1 1 l8a _ a3
  rw [l8a_write.1, l8a_write.2.1, l8a_write.2.2] at HW
  clear a1 a2 a3
  go_enter Try.func6, Try.ntmps6
  go_wp2_with fail
  refine HW.mono ?_
  rintro e w2 ⟨B1, c1, rfl, hs1, hb⟩
  replace hB := hB.trans (hb.mono hB.size)
  clear hb HW
  have a4 := bs_lit w2 b8b (b8b.map byteV).toArray 5 rfl (by decide)
  replace hB := hB.alloc hB.size (.cells (b8b.map byteV).toArray 5)
  replace hs1 := hs1.alloc (.cells (b8b.map byteV).toArray 5)
  have HR := KC.read 4099 _ 8 8 b8b _ a4 (by decide) (by decide)
  rw [b8b_read.1, b8b_read.2] at HR
  clear a4
  go_wp2_with fail
  refine HR.mono ?_
  rintro e w3 ⟨B2, m2, c2, rfl, hs2, hb⟩
  replace hB := hB.trans (hb.mono hB.size)
  replace hs1 := hs1.below hb
  obtain rfl : m2 = 2 := hs2.len.symm
  clear hb HR
  have a5 := bs_lit w3 b8c (b8c.map byteV).toArray 5 rfl (by decide)
  replace hB := hB.alloc hB.size (.cells (b8c.map byteV).toArray 5)
  replace hs1 := hs1.alloc (.cells (b8c.map byteV).toArray 5)
  replace hs2 := hs2.alloc (.cells (b8c.map byteV).toArray 5)
  have HS := KC.spots 48862 _ 4 4 b8c _ a5 (by decide) (by decide)
  rw [b8c_spots.1, b8c_spots.2] at HS
  clear a5
  go_wp2_with fail
  refine HS.mono ?_
  rintro e w4 ⟨B3, m3, c3, rfl, hs3, hb⟩
  replace hB := hB.trans (hb.mono hB.size)
  replace hs1 := hs1.below hb
  replace hs2 := hs2.below hb
  obtain rfl : m3 = 1 := hs3.len.symm
  clear hb HS
  obtain ⟨b2, o2, rfl, hlt2, hc2⟩ := hs2.at_ (by omega)
  obtain ⟨X0, n0, k0, p0, p1, d0⟩ := hc2 0 (by decide)
  obtain ⟨X1, n1, k1, p2, p3, d1⟩ := hc2 1 (by decide)
  obtain rfl : n0 = 0 := d0.len.symm
  obtain rfl : n1 = 1 := d1.len.symm
  clear hc2
  obtain ⟨b3, o3, rfl, hlt3, hc3⟩ := hs3.at_ (by omega)
  obtain ⟨q0, q1, q2⟩ := hc3 0 (by decide)
  clear hc3
  simp only [l8b, s8c, List.getElem_cons_zero, List.getElem_cons_succ] at p0 p1 p2 p3 q0 q1 q2 d0 d1
  have t1 : (convert 24 9 (.slice B1 b8a.length c1)).run Try.prog w4 = .ok (.string ⟨#[17, 7, 8, 0]⟩) w4 := str_of hs1
  have t2 : (convert 24 9 (.slice X1 1 k1)).run Try.prog w4 = .ok (.string ⟨#[9]⟩) w4 := str_of d1
  have p0' : w4.cell? ⟨b2, o2, none⟩ = some (.int .i64 200) := by simpa using p0
  have p1' : w4.cell? ⟨b2, o2 + 1, none⟩ = some (.slice X0 0 k0) := by simpa using p1
  have p2' : w4.cell? ⟨b2, o2 + 2, none⟩ = some (.int .i64 5) := by simpa using p2
  have p3' : w4.cell? ⟨b2, o2 + 2 + 1, none⟩ = some (.slice X1 1 k1) := by simpa using p3
  have q0' : w4.cell? ⟨b3, o3, none⟩ = some (.int .i64 1) := by simpa using q0
  have q1' : w4.cell? ⟨b3, o3 + 1, none⟩ = some (.int .i64 1) := by simpa using q1
  have q2' : w4.cell? ⟨b3, o3 + 2, none⟩ = some (.int .i64 1) := by simpa using q2
  clear p0 p1 p2 p3 q0 q1 q2
  have okR : ∀ W, Els W (some ⟨b2, o2, none⟩) 2 c2 l8b → ElOk W (some ⟨b2, o2, none⟩) 2 c2 l8b := fun W h => ⟨h, by decide, by decide, by decide⟩
  have HC1 : Hid (∀ W, Bs W B1 b8a.length c1 b8a → Calls Try.prog 19 #[.int .u16 48862, .slice B1 b8a.length c1] W (Says W (.bool true))) := Lib.hid (fun W h => by
    have := KC.canon 48862 B1 b8a.length c1 b8a W h (by decide) (by decide)
    rw [b8a_canon.1] at this
    exact this)
  have HC2 : Hid (∀ W, Bs W B1 b8a.length c1 b8a → Calls Try.prog 19 #[.int .u16 4096, .slice B1 b8a.length c1] W (Says W (.bool false))) := Lib.hid (fun W h => by
    have := KC.canon 4096 B1 b8a.length c1 b8a W h (by decide) (by decide)
    rw [b8a_canon.2] at this
    exact this)
  have HR3 : Hid (∀ W, Els W (some ⟨b2, o2, none⟩) 2 c2 l8b → Calls Try.prog 17 #[.slice (some ⟨b2, o2, none⟩) 2 c2] W (Says W (.bool true))) := Lib.hid (fun W h => by
    have := KC.right _ 2 c2 l8b W (okR W h)
    rw [l8b_right] at this
    exact this)
  clear okR
  change Bs w4 B1 b8a.length c1 b8a at hs1
  change Bs w4 X1 1 k1 [9] at d1
  go_wp2_with fail
  refine (HC1.out _ hs1).mono ?_
  rintro e5 w5 ⟨rfl, hb5⟩
  have hlt25 : b2 < w5.heap.size := Nat.lt_of_lt_of_le hlt2 hb5.size
  have hlt35 : b3 < w5.heap.size := Nat.lt_of_lt_of_le hlt3 hb5.size
  have hs15 : Bs w5 B1 b8a.length c1 b8a := Bs.below (w := w4) hs1 hb5
  have d15 : Bs w5 X1 1 k1 [9] := Bs.below (w := w4) d1 hb5
  have hs25 := Els.below (w := w4) hs2 hb5
  have t15 : (convert 24 9 (.slice B1 b8a.length c1)).run Try.prog w5 = .ok (.string ⟨#[17, 7, 8, 0]⟩) w5 := str_of hs15
  have t25 : (convert 24 9 (.slice X1 1 k1)).run Try.prog w5 = .ok (.string ⟨#[9]⟩) w5 := str_of d15
  have p05 : w5.cell? ⟨b2, o2, none⟩ = some (.int .i64 200) := (hb5.cell (p := ⟨b2, o2, none⟩) hlt2).trans p0'
  have p15 : w5.cell? ⟨b2, o2 + 1, none⟩ = some (.slice X0 0 k0) := (hb5.cell (p := ⟨b2, o2 + 1, none⟩) hlt2).trans p1'
  have p25 : w5.cell? ⟨b2, o2 + 2, none⟩ = some (.int .i64 5) := (hb5.cell (p := ⟨b2, o2 + 2, none⟩) hlt2).trans p2'
  have p35 : w5.cell? ⟨b2, o2 + 2 + 1, none⟩ = some (.slice X1 1 k1) := (hb5.cell (p := ⟨b2, o2 + 2 + 1, none⟩) hlt2).trans p3'
  have q05 : w5.cell? ⟨b3, o3, none⟩ = some (.int .i64 1) := (hb5.cell (p := ⟨b3, o3, none⟩) hlt3).trans q0'
  have q15 : w5.cell? ⟨b3, o3 + 1, none⟩ = some (.int .i64 1) := (hb5.cell (p := ⟨b3, o3 + 1, none⟩) hlt3).trans q1'
  have q25 : w5.cell? ⟨b3, o3 + 2, none⟩ = some (.int .i64 1) := (hb5.cell (p := ⟨b3, o3 + 2, none⟩) hlt3).trans q2'
  go_wp2_with fail
  refine (HC2.out _ hs15).mono ?_
  rintro e6 w6 ⟨rfl, hb6⟩
  have hlt26 : b2 < w6.heap.size := Nat.lt_of_lt_of_le hlt25 hb6.size
  have hlt36 : b3 < w6.heap.size := Nat.lt_of_lt_of_le hlt35 hb6.size
  have hs16 : Bs w6 B1 b8a.length c1 b8a := Bs.below (w := w5) hs15 hb6
  have d16 : Bs w6 X1 1 k1 [9] := Bs.below (w := w5) d15 hb6
  have hs26 := Els.below (w := w5) hs25 hb6
  have t16 : (convert 24 9 (.slice B1 b8a.length c1)).run Try.prog w6 = .ok (.string ⟨#[17, 7, 8, 0]⟩) w6 := str_of hs16
  have t26 : (convert 24 9 (.slice X1 1 k1)).run Try.prog w6 = .ok (.string ⟨#[9]⟩) w6 := str_of d16
  have p06 : w6.cell? ⟨b2, o2, none⟩ = some (.int .i64 200) := (hb6.cell (p := ⟨b2, o2, none⟩) hlt25).trans p05
  have p16 : w6.cell? ⟨b2, o2 + 1, none⟩ = some (.slice X0 0 k0) := (hb6.cell (p := ⟨b2, o2 + 1, none⟩) hlt25).trans p15
  have p26 : w6.cell? ⟨b2, o2 + 2, none⟩ = some (.int .i64 5) := (hb6.cell (p := ⟨b2, o2 + 2, none⟩) hlt25).trans p25
  have p36 : w6.cell? ⟨b2, o2 + 2 + 1, none⟩ = some (.slice X1 1 k1) := (hb6.cell (p := ⟨b2, o2 + 2 + 1, none⟩) hlt25).trans p35
  have q06 : w6.cell? ⟨b3, o3, none⟩ = some (.int .i64 1) := (hb6.cell (p := ⟨b3, o3, none⟩) hlt35).trans q05
  have q16 : w6.cell? ⟨b3, o3 + 1, none⟩ = some (.int .i64 1) := (hb6.cell (p := ⟨b3, o3 + 1, none⟩) hlt35).trans q15
  have q26 : w6.cell? ⟨b3, o3 + 2, none⟩ = some (.int .i64 1) := (hb6.cell (p := ⟨b3, o3 + 2, none⟩) hlt35).trans q25
  go_wp2_with fail
  refine (HR3.out _ hs26).mono ?_
  rintro e7 w7 ⟨rfl, hb7⟩
  have hlt27 : b2 < w7.heap.size := Nat.lt_of_lt_of_le hlt26 hb7.size
  have hlt37 : b3 < w7.heap.size := Nat.lt_of_lt_of_le hlt36 hb7.size
  have hs17 : Bs w7 B1 b8a.length c1 b8a := Bs.below (w := w6) hs16 hb7
  have d17 : Bs w7 X1 1 k1 [9] := Bs.below (w := w6) d16 hb7
  have hs27 := Els.below (w := w6) hs26 hb7
  have t17 : (convert 24 9 (.slice B1 b8a.length c1)).run Try.prog w7 = .ok (.string ⟨#[17, 7, 8, 0]⟩) w7 := str_of hs17
  have t27 : (convert 24 9 (.slice X1 1 k1)).run Try.prog w7 = .ok (.string ⟨#[9]⟩) w7 := str_of d17
  have p07 : w7.cell? ⟨b2, o2, none⟩ = some (.int .i64 200) := (hb7.cell (p := ⟨b2, o2, none⟩) hlt26).trans p06
  have p17 : w7.cell? ⟨b2, o2 + 1, none⟩ = some (.slice X0 0 k0) := (hb7.cell (p := ⟨b2, o2 + 1, none⟩) hlt26).trans p16
  have p27 : w7.cell? ⟨b2, o2 + 2, none⟩ = some (.int .i64 5) := (hb7.cell (p := ⟨b2, o2 + 2, none⟩) hlt26).trans p26
  have p37 : w7.cell? ⟨b2, o2 + 2 + 1, none⟩ = some (.slice X1 1 k1) := (hb7.cell (p := ⟨b2, o2 + 2 + 1, none⟩) hlt26).trans p36
  have q07 : w7.cell? ⟨b3, o3, none⟩ = some (.int .i64 1) := (hb7.cell (p := ⟨b3, o3, none⟩) hlt36).trans q06
  have q17 : w7.cell? ⟨b3, o3 + 1, none⟩ = some (.int .i64 1) := (hb7.cell (p := ⟨b3, o3 + 1, none⟩) hlt36).trans q16
  have q27 : w7.cell? ⟨b3, o3 + 2, none⟩ = some (.int .i64 1) := (hb7.cell (p := ⟨b3, o3 + 2, none⟩) hlt36).trans q26
  go_wp2_with fail
  go_ret
  exact ⟨rfl, hB.trans ((hb5.trans ((hb6.trans (hb7.mono hb6.size)).mono hb5.size)).mono hB.size)⟩
end

end Go.Proofs.Ytpkbikimpjmkgaa
