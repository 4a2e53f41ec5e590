/-
  PlaceRight, walked under the contracts of package place's calls.
-/
import Derived.Test.YtogjkkhboaflcaaPlaceK
namespace Go.Proofs.Ytogjkkhboaflcaa
open Go.RowKit
set_option linter.unusedVariables false
set_option linter.unusedSimpArgs false

section
variable (KC : PlaceCalls)
include KC
set_option maxRecDepth 100000 in
set_option maxHeartbeats 2000000 in
theorem placeRight_big (A : Option Addr) (n c : Nat) (B : Option Addr) (m d : Nat) (f x a : Int) (w : World) (h1 : (n : Int) ≤ 9223372036854775807) (h2 : (m : Int) ≤ 9223372036854775807) (hb : 70000 < n ∨ 99 < m) :
    Calls Try.prog 3 #[.slice A n c, .slice B m d, .int .i64 f, .int .i64 x, .int .i64 a] w fun e w' => e = .returned (.bool true) ∧ Below w.heap.size w w' := by
  go_enter Try.func3, Try.ntmps3
  go_wp2_with fail
  refine (awake_any KC _).mono ?_
  rintro e w2 ⟨rfl, hB⟩
  rcases Nat.lt_or_ge 70000 n with g | g
  · have g1 : (70000 : Int) < n := by omega
    go_wp2_with fail
    go_ret
    exact ⟨rfl, hB⟩
  · have g1 : ¬ (70000 : Int) < n := by omega
    have g2 : (99 : Int) < m := by omega
    have e2 : decide (99 < m) = true := decide_eq_true (by omega)
    go_wp2_with fail
    all_goals
      go_ret
      exact ⟨by first | rfl | simp, hB⟩

set_option maxRecDepth 100000 in
set_option maxHeartbeats 4000000 in
theorem placeRight_main (A : Option Addr) (n c : Nat) (s : List UInt8) (B : Option Addr) (m d : Nat) (l : List Pl) (f x a : Int) (w : World) (hs : Bs w A n c s) (hl : Pls w B m d l) (hfl : ∀ p ∈ l, fitsPl p) (hf : fitsI f) (hx : fitsI x) (ha : fitsI a) (hn : n ≤ 70000) (hm : m ≤ 99) :
    Calls Try.prog 3 #[.slice A n c, .slice B m d, .int .i64 f, .int .i64 x, .int .i64 a] w fun e w' => e = .returned (.bool true) ∧ Below w.heap.size w w' := by
  obtain ⟨L, hL⟩ : ∃ L, placesS s = L := ⟨_, rfl⟩
  obtain ⟨er, her⟩ : ∃ er : Nat, pErr s = er := ⟨_, rfl⟩
  have HO1 := Lib.hid (fun W hs => of_told KC A n c s W hs (by omega) L L.length (er : Int) hL rfl (by rw [her]))
  have HO2 : Hid (∀ W, Bs W A n c s → Calls Try.prog 8 #[.slice A n c] W fun x w' => ∃ B d, x = .returned (.tuple #[.slice B L.length d, .int .i64 (er : Int)]) ∧ Pls w' B L.length d L ∧ Below W.heap.size W w') := Lib.hid (fun W hs => (rof_any A n c s W hs (by omega)).mono (by
    rintro x w' ⟨B, m, d, rfl, hp, hb⟩
    obtain rfl := hp.len
    rw [hL] at hp ⊢
    rw [her]
    exact ⟨B, d, rfl, hp, hb⟩))
  obtain ⟨p, hp⟩ : ∃ p, findP l f x = p := ⟨_, rfl⟩
  obtain ⟨pe, hpe⟩ : ∃ pe, findE l f x = pe := ⟨_, rfl⟩
  have HF1 := Lib.hid (fun W hl => find_told KC B m d l f x W hl (by omega) hfl hf hx p pe hp hpe)
  have HF2 := Lib.hid (fun W hl => rfind_any B m d l f x W hl (by omega) hx)
  rw [hp, hpe] at HF2
  obtain ⟨z, hz⟩ : ∃ z, ownerP l a = z := ⟨_, rfl⟩
  have HW1 := Lib.hid (fun W hl => owner_told KC B m d l a W hl (by omega) hfl ha z hz)
  have HW2 := Lib.hid (fun W hl => rowner_any B m d l a W hl hfl ha)
  rw [hz] at HW2
  clear hL her hp hpe hz hfl
  obtain ⟨pf, pa, ps⟩ := p
  obtain ⟨ln, hln⟩ : ∃ ln, L.length = ln := ⟨_, rfl⟩
  rw [hln] at HO1 HO2
  clear hln
  have k70 : ¬ (70000 : Int) < n := by omega
  have k99 : ¬ (99 : Int) < m := by omega
  go_enter Try.func3, Try.ntmps3
  go_wp2_with fail
  refine (awake_any KC _).mono ?_
  rintro e w2 ⟨rfl, hB⟩
  go_wp2_with fail
  refine (HO1.out _ (hs.below hB)).mono ?_
  rintro e w3 ⟨B3, d3, rfl, hp3, hb⟩
  replace hB := hB.trans (hb.mono hB.size)
  clear hb
  go_wp2_with fail
  refine (HO2.out _ (hs.below hB)).mono ?_
  rintro e w4 ⟨B4, d4, rfl, hp4, hb⟩
  replace hB := hB.trans (hb.mono hB.size)
  replace hp3 := hp3.below hb
  clear hb
  go_wp2_with fail
  refine (rsamePl_any B3 ln d3 L B4 ln d4 L _ hp3 hp4).mono ?_
  rintro e w5 ⟨rfl, hb⟩
  replace hB := hB.trans (hb.mono hB.size)
  clear hb hp3 hp4
  rw [decide_eq_true (rfl : L = L)]
  go_wp2_with fail
  refine (HF1.out _ (hl.below hB)).mono ?_
  rintro e w6 ⟨rfl, hb⟩
  replace hB := hB.trans (hb.mono hB.size)
  clear hb
  have k1 := Box.new w6 [.int .i64 pf, .int .i64 pa, .int .i64 ps] 32
  replace hB := hB.alloc hB.size (.cells #[.int .i64 pf, .int .i64 pa, .int .i64 ps] 32)
  go_wp2_with fail
  refine (HF2.out _ (hl.below hB)).mono ?_
  rintro e w7 ⟨rfl, hb⟩
  replace hB := hB.trans (hb.mono hB.size)
  replace k1 := k1.call hb
  clear hb
  have k2 := Box.new w7 [.int .i64 pf, .int .i64 pa, .int .i64 ps] 32
  replace hB := hB.alloc hB.size (.cells #[.int .i64 pf, .int .i64 pa, .int .i64 ps] 32)
  replace k1 := k1.alloc (.cells #[.int .i64 pf, .int .i64 pa, .int .i64 ps] 32)
  obtain ⟨c0, c1, c2, _⟩ := k1.three
  obtain ⟨e0, e1, e2, _⟩ := k2.three
  go_wp2_with fail
  refine (HW1.out _ (hl.below hB)).mono ?_
  rintro e w8 ⟨rfl, hb⟩
  replace hB := hB.trans (hb.mono hB.size)
  clear hb c0 c1 c2 e0 e1 e2
  go_wp2_with fail
  refine (HW2.out _ (hl.below hB)).mono ?_
  rintro e w9 ⟨rfl, hb⟩
  replace hB := hB.trans (hb.mono hB.size)
  go_wp2_with fail
  go_ret
  exact ⟨by first | rfl | simp, hB⟩

theorem placeRight_all (A : Option Addr) (n c : Nat) (s : List UInt8) (B : Option Addr) (m d : Nat) (l : List Pl) (f x a : Int) (w : World) (hs : Bs w A n c s) (hl : Pls w B m d l) (hfl : ∀ p ∈ l, fitsPl p) (hf : fitsI f) (hx : fitsI x) (ha : fitsI a) :
    Calls Try.prog 3 #[.slice A n c, .slice B m d, .int .i64 f, .int .i64 x, .int .i64 a] w fun e w' => e = .returned (.bool true) ∧ Below w.heap.size w w' := by
  by_cases h : 70000 < n ∨ 99 < m
  · have b1 := Nat.le_trans hs.le hs.cap
    obtain ⟨b2, b3⟩ := hl.bounds
    unfold maxLen at b1
    exact placeRight_big KC A n c B m d f x a w (by omega) (by omega) h
  · exact placeRight_main KC A n c s B m d l f x a w hs hl hfl hf hx ha (by omega) (by omega)
end

end Go.Proofs.Ytogjkkhboaflcaa
