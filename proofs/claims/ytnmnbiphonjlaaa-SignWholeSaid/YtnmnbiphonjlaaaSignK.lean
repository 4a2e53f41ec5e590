/-
  What each statement of layer 9 leans on: the contracts of package sign's calls, in one; and the fixed answers: 'awake' is true, under them. (Written by gen_SignK.py.)
-/
import Derived.Test.YtnmnbiphonjlaaaSignC
namespace Go.Proofs.Ytnmnbiphonjlaaa
open Go.RowKit
set_option linter.unusedVariables false
set_option linter.unusedSimpArgs false

def writeSB (p : Sg) : List UInt8 := if rightSg p = true then writeSg p else []
def writeSE (p : Sg) : Nat := if rightSg p = true then 0 else 1
/-- A sign that may be handed over. -/
def SgOk (p : Sg) : Prop := p.text.size ≤ 1000000 ∧ p.num < 4294967296 ∧ (Lit.int .i64 p.kind).wf = true ∧ (Lit.int .i64 p.turns).wf = true
/-- What a call hands back: bytes, and the number of an error. -/
def GivesSB (w : World) (s : List UInt8) (err : Nat) (x : Ending) (w' : World) : Prop :=
  ∃ A c, x = .returned (.tuple #[.slice A s.length c, .int .i64 (err : Int)]) ∧ Bs w' A s.length c s ∧ Below w.heap.size w w'
/-- The contracts of package sign's calls. -/
structure SignCalls : Prop where
  right : ∀ (p : Sg) (w : World), SgOk p → Calls Try.prog 12 #[sgV p] w (Says w (.bool (rightSg p)))
  write : ∀ (p : Sg) (w : World), SgOk p → Calls Try.prog 8 #[sgV p] w (GivesSB w (writeSB p) (writeSE p))
  read : ∀ (k : Int) (A : Option Addr) (n c : Nat) (s : List UInt8) (w : World), Bs w A n c s → n ≤ 1000000 → (Lit.int .i64 k).wf = true →
    Calls Try.prog 10 #[.int .i64 k, .slice A n c] w (Says w (.tuple #[sgV (readSg k s), .int .i64 (signE k s)]))
  canon : ∀ (k : Int) (A : Option Addr) (n c : Nat) (s : List UInt8) (w : World), Bs w A n c s → n ≤ 1000000 → (Lit.int .i64 k).wf = true →
    Calls Try.prog 13 #[.int .i64 k, .slice A n c] w (Says w (.bool (canonSg k s)))

def s9a : Sg := ⟨6, ⟨#[]⟩, 0, false, true, 2⟩
def s9b : Sg := ⟨4, ⟨#[]⟩, 5, true, false, 0⟩
def s9c : Sg := ⟨1, ⟨#[118, 45, 49]⟩, 0, false, false, 0⟩
theorem s9a_ok : SgOk s9a := by unfold SgOk; decide
theorem s9b_ok : SgOk s9b := by unfold SgOk; decide
theorem s9a_write : writeSB s9a = [6] ∧ writeSE s9a = 0 ∧ rightSg s9a = true := by decide
theorem s9b_write : writeSB s9b = [133] ∧ writeSE s9b = 0 := by decide
theorem s9_read1 : readSg 6 [246] = s9a ∧ signE 6 [246] = 0 := by decide
theorem s9_read2 : readSg 1 [118, 45, 49] = s9c ∧ signE 1 [118, 45, 49] = 0 := by decide
theorem s9_read3 : readSg 3 [1, 2] = zeroSg ∧ signE 3 [1, 2] = 4 := by decide
theorem s9_canon : canonSg 6 [6] = true ∧ canonSg 6 [246] = false := by decide

section
variable (KC : SignCalls)
include KC
set_option maxRecDepth 100000 in
set_option maxHeartbeats 4000000 in
theorem awake_any (w : World) :
    Calls Try.prog 6 #[] w fun e w' => e = .returned (.bool true) ∧ Below w.heap.size w w' := by
  have HW1 : Hid (∀ W : World, Calls Try.prog 8 #[.agg #[.int .i64 6, .string ⟨#[]⟩, .int .u32 0, .bool false, .bool true, .int .i64 2]] W fun e w' => ∃ A c, e = .returned (.tuple #[.slice A 1 c, .int .i64 0]) ∧ Bs w' A 1 c [6] ∧ Below W.heap.size W w') := Lib.hid (fun W => by
    have := KC.write s9a W s9a_ok
    rw [s9a_write.1, s9a_write.2.1] at this
    exact this)
  have HW2 : Hid (∀ W : World, Calls Try.prog 8 #[.agg #[.int .i64 4, .string ⟨#[]⟩, .int .u32 5, .bool true, .bool false, .int .i64 0]] W fun e w' => ∃ A c, e = .returned (.tuple #[.slice A 1 c, .int .i64 0]) ∧ Bs w' A 1 c [133] ∧ Below W.heap.size W w') := Lib.hid (fun W => by
    have := KC.write s9b W s9b_ok
    rw [s9b_write.1, s9b_write.2] at this
    exact this)
  have HX : Hid (∀ W : World, Calls Try.prog 12 #[.agg #[.int .i64 6, .string ⟨#[]⟩, .int .u32 0, .bool false, .bool true, .int .i64 2]] W (Says W (.bool true))) := Lib.hid (fun W => by
    have := KC.right s9a W s9a_ok
    rw [s9a_write.2.2] at this
    exact this)
  have HR1 : Hid (∀ (W : World) A c, Bs W A 1 c [246] → Calls Try.prog 10 #[.int .i64 6, .slice A 1 c] W (Says W (.tuple #[.agg #[.int .i64 6, .string ⟨#[]⟩, .int .u32 0, .bool false, .bool true, .int .i64 2], .int .i64 0]))) := Lib.hid (fun W A c h => by
    have := KC.read 6 A 1 c [246] W h (by decide) (by decide)
    rw [s9_read1.1, s9_read1.2] at this
    exact this)
  have HR2 : Hid (∀ (W : World) A c, Bs W A 3 c [118, 45, 49] → Calls Try.prog 10 #[.int .i64 1, .slice A 3 c] W (Says W (.tuple #[.agg #[.int .i64 1, .string ⟨#[118, 45, 49]⟩, .int .u32 0, .bool false, .bool false, .int .i64 0], .int .i64 0]))) := Lib.hid (fun W A c h => by
    have := KC.read 1 A 3 c [118, 45, 49] W h (by decide) (by decide)
    rw [s9_read2.1, s9_read2.2] at this
    exact this)
  have HR3 : Hid (∀ (W : World) A c, Bs W A 2 c [1, 2] → Calls Try.prog 10 #[.int .i64 3, .slice A 2 c] W (Says W (.tuple #[.agg #[.int .i64 0, .string ⟨#[]⟩, .int .u32 0, .bool false, .bool false, .int .i64 0], .int .i64 4]))) := Lib.hid (fun W A c h => by
    have := KC.read 3 A 2 c [1, 2] W h (by decide) (by decide)
    rw [s9_read3.1, s9_read3.2] at this
    exact this)
  have HC1 : Hid (∀ (W : World) A c, Bs W A 1 c [6] → Calls Try.prog 13 #[.int .i64 6, .slice A 1 c] W (Says W (.bool true))) := Lib.hid (fun W A c h => by
    have := KC.canon 6 A 1 c [6] W h (by decide) (by decide)
    rw [s9_canon.1] at this
    exact this)
  have HC2 : Hid (∀ (W : World) A c, Bs W A 1 c [246] → Calls Try.prog 13 #[.int .i64 6, .slice A 1 c] W (Says W (.bool false))) := Lib.hid (fun W A c h => by
    have := KC.canon 6 A 1 c [246] W h (by decide) (by decide)
    rw [s9_canon.2] at this
    exact this)
  go_enter Try.func6, Try.ntmps6
  go_wp2_with fail
  refine (HW1.out _).mono ?_
  rintro e w2 ⟨A1, c1, rfl, hs1, hB⟩
  have hx := bs_lit w2 [246] (List.map byteV [246]).toArray 5 rfl (by decide)
  replace hs1 := hs1.alloc (.cells (List.map byteV [246]).toArray 5)
  replace hB := hB.alloc hB.size (.cells (List.map byteV [246]).toArray 5)
  go_wp2_with fail
  refine (HR1.out _ _ _ hx).mono ?_
  rintro e w3 ⟨rfl, hb⟩
  replace hs1 := hs1.below hb
  replace hx := hx.below hb
  replace hB := hB.trans (hb.mono hB.size)
  clear hb
  clear hx
  have k3 := Box.new w3 [.int .i64 6, .string ⟨#[]⟩, .int .u32 0, .bool false, .bool true, .int .i64 2] 24
  replace hs1 := hs1.alloc (.cells #[.int .i64 6, .string ⟨#[]⟩, .int .u32 0, .bool false, .bool true, .int .i64 2] 24)
  replace hB := hB.alloc hB.size (.cells #[.int .i64 6, .string ⟨#[]⟩, .int .u32 0, .bool false, .bool true, .int .i64 2] 24)
  have fk3 := k3.all6.1
  go_wp2_with fail
  refine (HW2.out _).mono ?_
  rintro e w4 ⟨A4, c4, rfl, hs4, hb⟩
  clear fk3
  replace hs1 := hs1.below hb
  replace k3 := k3.call hb
  replace hB := hB.trans (hb.mono hB.size)
  clear hb
  have hx : Bs (w4.alloc (.cells #[.int .u8 118, .int .u8 45, .int .u8 49] 5 (3, 4))) (some ⟨w4.heap.size, 0, none⟩) 3 3 [118, 45, 49] := bs_mark w4 [118, 45, 49] 5 (3, 4) (by decide)
  have hcv : (convert 25 25 (.slice (some ⟨w4.heap.size, 0, none⟩) 3 3)).run Try.prog (w4.alloc (.cells #[.int .u8 118, .int .u8 45, .int .u8 49] 5)) = .ok (.slice (some ⟨w4.heap.size, 0, none⟩) 3 3) (w4.alloc (.cells #[.int .u8 118, .int .u8 45, .int .u8 49] 5 (3, 4))) := conv_lit 25 5 Try.underlying25 Try.underlying5 w4 [118, 45, 49] 3 3
  replace hs1 := hs1.alloc (.cells #[.int .u8 118, .int .u8 45, .int .u8 49] 5 (3, 4))
  replace k3 := k3.alloc (.cells #[.int .u8 118, .int .u8 45, .int .u8 49] 5 (3, 4))
  replace hs4 := hs4.alloc (.cells #[.int .u8 118, .int .u8 45, .int .u8 49] 5 (3, 4))
  replace hB := hB.alloc hB.size (.cells #[.int .u8 118, .int .u8 45, .int .u8 49] 5 (3, 4))
  have fk3 := k3.all6.1
  go_wp2_with fail
  refine (HR2.out _ _ _ hx).mono ?_
  rintro e w5 ⟨rfl, hb⟩
  clear fk3
  replace hs1 := hs1.below hb
  replace k3 := k3.call hb
  replace hs4 := hs4.below hb
  replace hx := hx.below hb
  replace hB := hB.trans (hb.mono hB.size)
  clear hb
  clear hx
  have k5 := Box.new w5 [.int .i64 1, .string ⟨#[118, 45, 49]⟩, .int .u32 0, .bool false, .bool false, .int .i64 0] 24
  replace hs1 := hs1.alloc (.cells #[.int .i64 1, .string ⟨#[118, 45, 49]⟩, .int .u32 0, .bool false, .bool false, .int .i64 0] 24)
  replace k3 := k3.alloc (.cells #[.int .i64 1, .string ⟨#[118, 45, 49]⟩, .int .u32 0, .bool false, .bool false, .int .i64 0] 24)
  replace hs4 := hs4.alloc (.cells #[.int .i64 1, .string ⟨#[118, 45, 49]⟩, .int .u32 0, .bool false, .bool false, .int .i64 0] 24)
  replace hB := hB.alloc hB.size (.cells #[.int .i64 1, .string ⟨#[118, 45, 49]⟩, .int .u32 0, .bool false, .bool false, .int .i64 0] 24)
  have hx := bs_lit (w5.alloc (.cells #[.int .i64 1, .string ⟨#[118, 45, 49]⟩, .int .u32 0, .bool false, .bool false, .int .i64 0] 24)) [1, 2] (List.map byteV [1, 2]).toArray 5 rfl (by decide)
  rw [World.size_alloc] at hx
  change Bs _ _ 2 2 _ at hx
  replace hs1 := hs1.alloc (.cells (List.map byteV [1, 2]).toArray 5)
  replace k3 := k3.alloc (.cells (List.map byteV [1, 2]).toArray 5)
  replace hs4 := hs4.alloc (.cells (List.map byteV [1, 2]).toArray 5)
  replace k5 := k5.alloc (.cells (List.map byteV [1, 2]).toArray 5)
  replace hB := hB.alloc hB.size (.cells (List.map byteV [1, 2]).toArray 5)
  have fk3 := k3.all6.1
  have fk5 := k5.all6.1
  go_wp2_with fail
  refine (HR3.out _ _ _ hx).mono ?_
  rintro e w6 ⟨rfl, hb⟩
  clear fk3 fk5
  replace hs1 := hs1.below hb
  replace k3 := k3.call hb
  replace hs4 := hs4.below hb
  replace k5 := k5.call hb
  replace hx := hx.below hb
  replace hB := hB.trans (hb.mono hB.size)
  clear hb
  clear hx
  have k6 := Box.new w6 [.int .i64 0, .string ⟨#[]⟩, .int .u32 0, .bool false, .bool false, .int .i64 0] 24
  replace hs1 := hs1.alloc (.cells #[.int .i64 0, .string ⟨#[]⟩, .int .u32 0, .bool false, .bool false, .int .i64 0] 24)
  replace k3 := k3.alloc (.cells #[.int .i64 0, .string ⟨#[]⟩, .int .u32 0, .bool false, .bool false, .int .i64 0] 24)
  replace hs4 := hs4.alloc (.cells #[.int .i64 0, .string ⟨#[]⟩, .int .u32 0, .bool false, .bool false, .int .i64 0] 24)
  replace k5 := k5.alloc (.cells #[.int .i64 0, .string ⟨#[]⟩, .int .u32 0, .bool false, .bool false, .int .i64 0] 24)
  replace hB := hB.alloc hB.size (.cells #[.int .i64 0, .string ⟨#[]⟩, .int .u32 0, .bool false, .bool false, .int .i64 0] 24)
  have fk3 := k3.all6.1
  have fk5 := k5.all6.1
  have fk6 := k6.all6.1
  have t1 := str_of hs1
  have t4 := str_of hs4
  go_wp2_with fail
  refine (HC1.out _ _ _ hs1).mono ?_
  rintro e w7 ⟨rfl, hb⟩
  clear t1 t4
  clear fk3 fk5 fk6
  replace hs1 := hs1.below hb
  replace k3 := k3.call hb
  replace hs4 := hs4.below hb
  replace k5 := k5.call hb
  replace k6 := k6.call hb
  replace hB := hB.trans (hb.mono hB.size)
  clear hb
  have hx := bs_lit w7 [246] (List.map byteV [246]).toArray 5 rfl (by decide)
  replace hs1 := hs1.alloc (.cells (List.map byteV [246]).toArray 5)
  replace k3 := k3.alloc (.cells (List.map byteV [246]).toArray 5)
  replace hs4 := hs4.alloc (.cells (List.map byteV [246]).toArray 5)
  replace k5 := k5.alloc (.cells (List.map byteV [246]).toArray 5)
  replace k6 := k6.alloc (.cells (List.map byteV [246]).toArray 5)
  replace hB := hB.alloc hB.size (.cells (List.map byteV [246]).toArray 5)
  have fk3 := k3.all6.1
  have fk5 := k5.all6.1
  have fk6 := k6.all6.1
  go_wp2_with fail
  refine (HC2.out _ _ _ hx).mono ?_
  rintro e w8 ⟨rfl, hb⟩
  clear fk3 fk5 fk6
  replace hs1 := hs1.below hb
  replace k3 := k3.call hb
  replace hs4 := hs4.below hb
  replace k5 := k5.call hb
  replace k6 := k6.call hb
  replace hx := hx.below hb
  replace hB := hB.trans (hb.mono hB.size)
  clear hb
  have fk3 := k3.all6.1
  have fk5 := k5.all6.1
  have fk6 := k6.all6.1
  go_wp2_with fail
  refine (HX.out _).mono ?_
  rintro e w9 ⟨rfl, hb⟩
  clear fk3 fk5 fk6
  replace hs1 := hs1.below hb
  replace k3 := k3.call hb
  replace hs4 := hs4.below hb
  replace k5 := k5.call hb
  replace k6 := k6.call hb
  replace hx := hx.below hb
  replace hB := hB.trans (hb.mono hB.size)
  go_wp2_with fail
  go_ret
  exact ⟨rfl, hB⟩
end

end Go.Proofs.Ytnmnbiphonjlaaa
