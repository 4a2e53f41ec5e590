/-
  What each statement of layer 4 leans on: the contracts of package text's calls, in one; and the fixed answers: 'awake' is true.
-/
import Derived.Test.YtcfmokhiibhfhaaTextC
namespace Go.Proofs.Ytcfmokhiibhfhaa
open Go.RowKit

/-- The contracts of package text's calls, for texts of up to a million bytes. -/
structure TextCalls : Prop where
  tok : ∀ (s : ByteArray) (w : World), s.size ≤ 1000000 → Calls Try.prog 8 #[.string s] w (Says w (.bool (tokenB s.data.toList)))
  may : ∀ (s : ByteArray) (w : World), s.size ≤ 1000000 → Calls Try.prog 10 #[.string s] w (Says w (.bool (mayB s.data.toList)))
  runes : ∀ (s : ByteArray) (w : World), s.size ≤ 1000000 → Calls Try.prog 12 #[.string s] w (Says w (.int .i64 ((runesN s.data.toList : Nat) : Int)))
  quote : ∀ (s : ByteArray) (w : World), s.size ≤ 1000000 → Calls Try.prog 14 #[.string s] w (Says w (.string ⟨(quoteB s.data.toList).toArray⟩))
  unq : ∀ (s : ByteArray) (w : World), s.size ≤ 1000000 → Calls Try.prog 16 #[.string s] w (Says w (unqE s.data.toList))
  words : ∀ (s : ByteArray) (w : World), s.size ≤ 1000000 → Calls Try.prog 18 #[.string s] w (GivesWE w (wordsB s.data.toList))
theorem unqE_none {Q : List UInt8} (h : unqB Q = none) : unqE Q = .tuple #[.string ⟨#[]⟩, .int .i64 6] := by unfold unqE; rw [h]
theorem unqE_some {Q X : List UInt8} (h : unqB Q = some X) : unqE Q = .tuple #[.string ⟨X.toArray⟩, .int .i64 0] := by unfold unqE; rw [h]

section
variable (K : TextCalls)
include K
theorem tok_lit (s : ByteArray) (b : Bool) (w : World) (hs : s.size ≤ 1000000) (h : tokenB s.data.toList = b) : Calls Try.prog 8 #[.string s] w (Says w (.bool b)) := by subst h; exact K.tok s w hs
theorem may_lit (s : ByteArray) (b : Bool) (w : World) (hs : s.size ≤ 1000000) (h : mayB s.data.toList = b) : Calls Try.prog 10 #[.string s] w (Says w (.bool b)) := by subst h; exact K.may s w hs
theorem runes_lit (s : ByteArray) (n : Int) (w : World) (hs : s.size ≤ 1000000) (h : ((runesN s.data.toList : Nat) : Int) = n) : Calls Try.prog 12 #[.string s] w (Says w (.int .i64 n)) := by subst h; exact K.runes s w hs
theorem quote_lit (s : ByteArray) (x : List UInt8) (w : World) (hs : s.size ≤ 1000000) (h : quoteB s.data.toList = x) : Calls Try.prog 14 #[.string s] w (Says w (.string ⟨x.toArray⟩)) := by subst h; exact K.quote s w hs
theorem unq_lit (s : ByteArray) (x : List UInt8) (w : World) (hs : s.size ≤ 1000000) (h : unqB s.data.toList = some x) : Calls Try.prog 16 #[.string s] w (Says w (.tuple #[.string ⟨x.toArray⟩, .int .i64 0])) := by rw [← unqE_some h]; exact K.unq s w hs
theorem unq_lit0 (s : ByteArray) (w : World) (hs : s.size ≤ 1000000) (h : unqB s.data.toList = none) : Calls Try.prog 16 #[.string s] w (Says w (.tuple #[.string ⟨#[]⟩, .int .i64 6])) := by rw [← unqE_none h]; exact K.unq s w hs
theorem words_lit (s : ByteArray) (l : List (List UInt8)) (w : World) (hs : s.size ≤ 1000000) (h : wordsB s.data.toList = some l) : Calls Try.prog 18 #[.string s] w fun e w' => ∃ A c, e = .returned (.tuple #[.slice A l.length c, .int .i64 0]) ∧ Ts w' A l.length c l ∧ Below w.heap.size w w' := by
  have := K.words s w hs
  rw [h] at this
  exact this
theorem words_lit0 (s : ByteArray) (w : World) (hs : s.size ≤ 1000000) (h : wordsB s.data.toList = none) : Calls Try.prog 18 #[.string s] w fun e w' => ∃ A c, e = .returned (.tuple #[.slice A 0 c, .int .i64 6]) ∧ Ts w' A 0 c [] ∧ Below w.heap.size w w' := by
  have := K.words s w hs
  rw [h] at this
  exact this

set_option maxRecDepth 100000 in
set_option maxHeartbeats 1000000 in
theorem awake_any (w : World) :
    Calls Try.prog 7 #[] w fun e w' => e = .returned (.bool true) ∧ Below w.heap.size w w' := by
  go_enter Try.func7, Try.ntmps7
  go_wp2_with fail
  refine (unq_lit K _ [97, 34, 98, 10] _ (by decide) (by decide)).mono ?_
  rintro e w1 ⟨rfl, hb1⟩
  go_wp2_with fail
  refine (words_lit K _ [[97], [34, 98, 32, 99, 34], [100]] _ (by decide) (by decide)).mono ?_
  rintro e w2 ⟨A2, c2, rfl, hT2, hb2⟩
  have hB2 := hb1.trans (hb2.mono hb1.size)
  clear hb1 hb2
  go_wp2_with fail
  refine (tok_lit K _ true _ (by decide) (by decide)).mono ?_
  rintro e w3 ⟨rfl, hb3⟩
  have hT3 := hT2.below hb3
  have hB3 := hB2.trans (hb3.mono hB2.size)
  clear hb3 hT2 hB2
  go_wp2_with fail
  refine (tok_lit K _ false _ (by decide) (by decide)).mono ?_
  rintro e w4 ⟨rfl, hb4⟩
  have hT4 := hT3.below hb4
  have hB4 := hB3.trans (hb4.mono hB3.size)
  clear hb4 hT3 hB3
  go_wp2_with fail
  refine (may_lit K _ true _ (by decide) (by decide)).mono ?_
  rintro e w5 ⟨rfl, hb5⟩
  have hT5 := hT4.below hb5
  have hB5 := hB4.trans (hb5.mono hB4.size)
  clear hb5 hT4 hB4
  go_wp2_with fail
  refine (may_lit K _ false _ (by decide) (by decide)).mono ?_
  rintro e w6 ⟨rfl, hb6⟩
  have hT6 := hT5.below hb6
  have hB6 := hB5.trans (hb6.mono hB5.size)
  clear hb6 hT5 hB5
  go_wp2_with fail
  refine (runes_lit K _ 2 _ (by decide) (by decide)).mono ?_
  rintro e w7 ⟨rfl, hb7⟩
  have hT7 := hT6.below hb7
  have hB7 := hB6.trans (hb7.mono hB6.size)
  clear hb7 hT6 hB6
  go_wp2_with fail
  refine (quote_lit K _ [34, 97, 92, 34, 98, 92, 48, 97, 34] _ (by decide) (by decide)).mono ?_
  rintro e w8 ⟨rfl, hb8⟩
  have hT8 := hT7.below hb8
  have hB8 := hB7.trans (hb8.mono hB7.size)
  clear hb8 hT7 hB7
  obtain ⟨b, o, rfl, _, hc⟩ := Sl.at_ hT8 (by decide)
  have hc1 : w8.cell? ⟨b, o + 1, none⟩ = some (.string ⟨#[34, 98, 32, 99, 34]⟩) := hc 1 _ rfl
  clear hc
  go_wp2
  go_ret
  exact ⟨rfl, hB8⟩
end

end Go.Proofs.Ytcfmokhiibhfhaa
