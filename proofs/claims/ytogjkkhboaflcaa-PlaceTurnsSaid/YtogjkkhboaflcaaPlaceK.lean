/-
  What each statement of layer 7 leans on: the contracts of package place's calls, in one; and the fixed answers: 'awake' is true, under them.
-/
import Derived.Test.YtogjkkhboaflcaaPlaceO
namespace Go.Proofs.Ytogjkkhboaflcaa
open Go.RowKit
set_option linter.unusedVariables false
set_option linter.unusedSimpArgs false

/-- The contracts of package place's calls. -/
structure PlaceCalls : Prop where
  of : ∀ (A : Option Addr) (l c : Nat) (s : List UInt8) (w : World), Bs w A l c s → l ≤ 1000000000 →
    Calls Try.prog 7 #[.slice A l c] w (GivesPl w (placesS s) (pErr s))
  find : ∀ (A : Option Addr) (n c : Nat) (l : List Pl) (f x : Int) (w : World), Pls w A n c l → n ≤ 1000000 → (∀ p ∈ l, fitsPl p) → fitsI f → fitsI x →
    Calls Try.prog 10 #[.slice A n c, .int .i64 f, .int .i64 x] w (Says w (.tuple #[plV (findP l f x), .int .i64 (findE l f x)]))
  owner : ∀ (A : Option Addr) (n c : Nat) (l : List Pl) (x : Int) (w : World), Pls w A n c l → n ≤ 1000000 → (∀ p ∈ l, fitsPl p) → fitsI x →
    Calls Try.prog 12 #[.slice A n c, .int .i64 x] w (Says w (.int .i64 (ownerP l x)))

def b27 : List UInt8 := [177, 0, 0, 1, 0, 0, 0, 2, 0, 0, 0, 3, 0, 0, 0, 4, 190, 222, 0, 1, 9, 9, 9, 9, 7, 0, 2]
def l12 : List Pl := [⟨1, 0, 1⟩, ⟨2, 1, 1⟩, ⟨3, 2, 2⟩, ⟨4, 4, 4⟩, ⟨5, 8, 4⟩, ⟨6, 12, 4⟩, ⟨7, 16, 2⟩, ⟨8, 18, 2⟩, ⟨9, 20, 4⟩, ⟨10, 24, 1⟩, ⟨11, 25, 1⟩, ⟨12, 26, 1⟩]
theorem b27_err : pErr b27 = 0 := by decide
theorem b27_places : placesS b27 = l12 := by decide
theorem l12_fits : ∀ p ∈ l12, fitsPl p := by
  intro p hp
  simp only [l12, List.mem_cons, List.not_mem_nil, or_false] at hp
  unfold fitsPl fitsI
  rcases hp with rfl | rfl | rfl | rfl | rfl | rfl | rfl | rfl | rfl | rfl | rfl | rfl <;> simp

section
variable (KC : PlaceCalls)
include KC
theorem of_told (A : Option Addr) (l c : Nat) (s : List UInt8) (w : World) (hs : Bs w A l c s) (hl : l ≤ 1000000000) (L : List Pl) (m : Nat) (er : Int) (h1 : placesS s = L) (h2 : L.length = m) (h3 : (pErr s : Int) = er) :
    Calls Try.prog 7 #[.slice A l c] w fun x w' => ∃ B d, x = .returned (.tuple #[.slice B m d, .int .i64 er]) ∧ Pls w' B m d L ∧ Below w.heap.size w w' := by
  subst h1 h2 h3
  refine (KC.of A l c s w hs hl).mono ?_
  rintro x w' ⟨B, m, d, rfl, hp, hb⟩
  obtain rfl := hp.len
  exact ⟨B, d, rfl, hp, hb⟩
theorem find_told (A : Option Addr) (n c : Nat) (l : List Pl) (f x : Int) (w : World) (hl : Pls w A n c l) (hn : n ≤ 1000000) (hf : ∀ p ∈ l, fitsPl p) (h1 : fitsI f) (h2 : fitsI x) (p : Pl) (er : Int) (hp : findP l f x = p) (he : findE l f x = er) :
    Calls Try.prog 10 #[.slice A n c, .int .i64 f, .int .i64 x] w (Says w (.tuple #[plV p, .int .i64 er])) := by
  subst hp he
  exact KC.find A n c l f x w hl hn hf h1 h2
theorem owner_told (A : Option Addr) (n c : Nat) (l : List Pl) (x : Int) (w : World) (hl : Pls w A n c l) (hn : n ≤ 1000000) (hf : ∀ p ∈ l, fitsPl p) (h2 : fitsI x) (z : Int) (hz : ownerP l x = z) :
    Calls Try.prog 12 #[.slice A n c, .int .i64 x] w (Says w (.int .i64 z)) := by
  subst hz
  exact KC.owner A n c l x w hl hn hf h2

set_option maxRecDepth 100000 in
set_option maxHeartbeats 2000000 in
theorem awake_any (w : World) :
    Calls Try.prog 6 #[] w fun e w' => e = .returned (.bool true) ∧ Below w.heap.size w w' := by
  have hb := bs_lit w b27 (b27.map byteV).toArray 5 rfl (by simp [maxLen, b27])
  have hB := below1 w (.cells (b27.map byteV).toArray 5)
  go_enter Try.func6, Try.ntmps6
  go_wp2_with fail
  refine (of_told KC (some ⟨w.heap.size, 0, none⟩) 27 27 b27 _ hb (by decide) l12 12 0 b27_places rfl (by rw [b27_err]; rfl)).mono ?_
  rintro e w2 ⟨B, d, rfl, hp, hb2⟩
  replace hB := hB.trans (hb2.mono hB.size)
  clear hb hb2
  go_wp2_with fail
  refine (find_told KC B 12 d l12 9 0 _ hp (by decide) l12_fits (by unfold fitsI; omega) (by unfold fitsI; omega) ⟨9, 20, 4⟩ 0 (by decide) (by decide)).mono ?_
  rintro e w3 ⟨rfl, hb3⟩
  replace hp := (hp.below hb3).alloc (.cells #[.int .i64 9, .int .i64 20, .int .i64 4] 32)
  have k1 := Box.new w3 [.int .i64 9, .int .i64 20, .int .i64 4] 32
  replace hB := (hB.trans (hb3.mono hB.size)).alloc (by have := hB.size; have := hb3.size; omega) (.cells #[.int .i64 9, .int .i64 20, .int .i64 4] 32)
  clear hb3
  go_wp2_with fail
  refine (find_told KC B 12 d l12 6 1 _ hp (by decide) l12_fits (by unfold fitsI; omega) (by unfold fitsI; omega) zeroPl 8 (by decide) (by decide)).mono ?_
  rintro e w4 ⟨rfl, hb4⟩
  replace hp := (hp.below hb4).alloc (.cells #[.int .i64 0, .int .i64 0, .int .i64 0] 32)
  replace k1 := (k1.call hb4).alloc (.cells #[.int .i64 0, .int .i64 0, .int .i64 0] 32)
  replace hB := (hB.trans (hb4.mono hB.size)).alloc (by have := hB.size; have := hb4.size; omega) (.cells #[.int .i64 0, .int .i64 0, .int .i64 0] 32)
  clear hb4
  dsimp only [zeroPl]
  obtain ⟨c0, c1, c2, _⟩ := k1.three
  go_wp2_with fail
  refine (owner_told KC B 12 d l12 24 _ hp (by decide) l12_fits (by unfold fitsI; omega) 10 (by decide)).mono ?_
  rintro e w5 ⟨rfl, hb5⟩
  replace hp := hp.below hb5
  replace hB := hB.trans (hb5.mono hB.size)
  clear hb5 c0 c1 c2
  go_wp2_with fail
  refine (owner_told KC B 12 d l12 27 _ hp (by decide) l12_fits (by unfold fitsI; omega) (-1) (by decide)).mono ?_
  rintro e w6 ⟨rfl, hb6⟩
  replace hB := hB.trans (hb6.mono hB.size)
  go_wp2_with fail
  go_ret
  exact ⟨rfl, hB⟩
end

end Go.Proofs.Ytogjkkhboaflcaa
