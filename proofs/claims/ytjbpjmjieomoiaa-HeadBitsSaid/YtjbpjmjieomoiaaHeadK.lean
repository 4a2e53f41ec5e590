/-
  What each statement of layer 5 leans on: the contracts of package head's calls, in one; and the fixed answers: 'awake' is true.
-/
import Derived.Test.YtjbpjmjieomoiaaHeadR3
namespace Go.Proofs.Ytjbpjmjieomoiaa
open Go.RowKit

def writeH (h : Hd) : List UInt8 := if rightH h = true then headB h else []
def writeE (h : Hd) : Int := if rightH h = true then 0 else 1
def sizeH (h : Hd) : Int := if rightH h = true then 12 + 4 * (h.csrc.length : Int) else 0
/-- What a call hands back: bytes, wherever they lie, and the number of an error. -/
def GivesS (w : World) (s : List UInt8) (err : Int) (x : Ending) (w' : World) : Prop :=
  ∃ A c, x = .returned (.tuple #[.slice A s.length c, .int .i64 err]) ∧ Bs w' A s.length c s ∧ Below w.heap.size w w'
/-- The contracts of package head's calls. -/
structure HeadCalls : Prop where
  right : ∀ (p e m : Bool) (t : Int) (q ti ss : Nat) (A : Option Addr) (n c : Nat) (l : List Nat) (w : World), Us w A n c l → n ≤ 1000000 → fitsH ⟨p, e, m, t, q, ti, ss, l⟩ → (Lit.int .i64 t).wf = true →
    Calls Try.prog 13 #[.agg #[.bool p, .bool e, .bool m, .int .i64 t, .int .u16 q, .int .u32 ti, .int .u32 ss, .slice A n c]] w (Says w (.bool (rightH ⟨p, e, m, t, q, ti, ss, l⟩)))
  size : ∀ (p e m : Bool) (t : Int) (q ti ss : Nat) (A : Option Addr) (n c : Nat) (l : List Nat) (w : World), Us w A n c l → n ≤ 1000000 → fitsH ⟨p, e, m, t, q, ti, ss, l⟩ → (Lit.int .i64 t).wf = true →
    Calls Try.prog 10 #[.agg #[.bool p, .bool e, .bool m, .int .i64 t, .int .u16 q, .int .u32 ti, .int .u32 ss, .slice A n c]] w (Says w (.int .i64 (sizeH ⟨p, e, m, t, q, ti, ss, l⟩)))
  write : ∀ (p e m : Bool) (t : Int) (q ti ss : Nat) (A : Option Addr) (n c : Nat) (l : List Nat) (w : World), Us w A n c l → n ≤ 1000000 → fitsH ⟨p, e, m, t, q, ti, ss, l⟩ → (Lit.int .i64 t).wf = true →
    Calls Try.prog 8 #[.agg #[.bool p, .bool e, .bool m, .int .i64 t, .int .u16 q, .int .u32 ti, .int .u32 ss, .slice A n c]] w (GivesS w (writeH ⟨p, e, m, t, q, ti, ss, l⟩) (writeE ⟨p, e, m, t, q, ti, ss, l⟩))
  read : ∀ (A : Option Addr) (l c : Nat) (s : List UInt8) (w : World), Bs w A l c s → l ≤ 1000000000 →
    Calls Try.prog 11 #[.slice A l c] w (GivesH w (readH s) (readN s) (hErr s))

/-- Numbers that were just written out. -/
theorem us_lit (w : World) (l : List Nat) (vs : Array Value) (e : TypeId) (hv : vs = (l.map u32V).toArray) (hm : l.length ≤ maxLen) : Us (w.alloc (.cells vs e)) (some ⟨w.heap.size, 0, none⟩) l.length l.length l := by
  subst hv
  have := Sl.lit w (l.map u32V) e (by simpa using hm)
  rwa [List.length_map] at this

section
variable (K : HeadCalls)
include K
theorem write_lit (p e m : Bool) (t : Int) (q ti ss : Nat) (A : Option Addr) (n c : Nat) (l : List Nat) (w : World) (hl : Us w A n c l) (hn : n ≤ 1000000) (hf : fitsH ⟨p, e, m, t, q, ti, ss, l⟩) (ht : (Lit.int .i64 t).wf = true) (s : List UInt8) (k : Nat) (er : Int) (hs : writeH ⟨p, e, m, t, q, ti, ss, l⟩ = s) (hk : s.length = k) (he : writeE ⟨p, e, m, t, q, ti, ss, l⟩ = er) :
    Calls Try.prog 8 #[.agg #[.bool p, .bool e, .bool m, .int .i64 t, .int .u16 q, .int .u32 ti, .int .u32 ss, .slice A n c]] w fun x w' => ∃ A' c', x = .returned (.tuple #[.slice A' k c', .int .i64 er]) ∧ Bs w' A' k c' s ∧ Below w.heap.size w w' := by
  subst hs hk he
  exact K.write p e m t q ti ss A n c l w hl hn hf ht
theorem read_lit (A : Option Addr) (l c : Nat) (s : List UInt8) (w : World) (hs : Bs w A l c s) (hl : l ≤ 1000000000) (h : Hd) (n : Nat) (er : Int) (h1 : readH s = h) (h2 : (readN s : Int) = n) (h3 : (hErr s : Int) = er) :
    Calls Try.prog 11 #[.slice A l c] w fun x w' => ∃ B d, x = .returned (.tuple #[hdV h B d, .int .i64 n, .int .i64 er]) ∧ Us w' B h.csrc.length d h.csrc ∧ Below w.heap.size w w' := by
  subst h1 h3
  rw [← h2]
  exact K.read A l c s w hs hl
theorem right_lit (p e m : Bool) (t : Int) (q ti ss : Nat) (A : Option Addr) (n c : Nat) (l : List Nat) (w : World) (hl : Us w A n c l) (hn : n ≤ 1000000) (hf : fitsH ⟨p, e, m, t, q, ti, ss, l⟩) (ht : (Lit.int .i64 t).wf = true) (b : Bool) (hb : rightH ⟨p, e, m, t, q, ti, ss, l⟩ = b) :
    Calls Try.prog 13 #[.agg #[.bool p, .bool e, .bool m, .int .i64 t, .int .u16 q, .int .u32 ti, .int .u32 ss, .slice A n c]] w (Says w (.bool b)) := by
  subst hb
  exact K.right p e m t q ti ss A n c l w hl hn hf ht
theorem size_lit (p e m : Bool) (t : Int) (q ti ss : Nat) (A : Option Addr) (n c : Nat) (l : List Nat) (w : World) (hl : Us w A n c l) (hn : n ≤ 1000000) (hf : fitsH ⟨p, e, m, t, q, ti, ss, l⟩) (ht : (Lit.int .i64 t).wf = true) (b : Int) (hb : sizeH ⟨p, e, m, t, q, ti, ss, l⟩ = b) :
    Calls Try.prog 10 #[.agg #[.bool p, .bool e, .bool m, .int .i64 t, .int .u16 q, .int .u32 ti, .int .u32 ss, .slice A n c]] w (Says w (.int .i64 b)) := by
  subst hb
  exact K.size p e m t q ti ss A n c l w hl hn hf ht

set_option maxRecDepth 100000 in
set_option maxHeartbeats 2000000 in
theorem awake_any (w : World) :
    Calls Try.prog 6 #[] w fun e w' => e = .returned (.bool true) ∧ Below w.heap.size w w' := by
  have hf : fitsH ⟨false, true, true, 96, 258, 3, 4, [5]⟩ := by unfold fitsH; simp
  go_enter Try.func6, Try.ntmps6
  go_wp2_with fail
  have hl := (us_lit w [5] #[.int .u32 5] 23 rfl (by simp [maxLen])).alloc (.cells #[.bool false, .bool true, .bool true, .int .i64 96, .int .u16 258, .int .u32 3, .int .u32 4, .slice (some ⟨w.heap.size, 0, none⟩) 1 1] 26)
  have k1 := Box.new (w.alloc (.cells #[.int .u32 5] 23)) [.bool false, .bool true, .bool true, .int .i64 96, .int .u16 258, .int .u32 3, .int .u32 4, .slice (some ⟨w.heap.size, 0, none⟩) 1 1] 26
  rw [World.size_alloc] at k1
  have hB := below2 w (.cells #[.int .u32 5] 23) (.cells #[.bool false, .bool true, .bool true, .int .i64 96, .int .u16 258, .int .u32 3, .int .u32 4, .slice (some ⟨w.heap.size, 0, none⟩) 1 1] 26)
  refine (write_lit K _ _ _ _ _ _ _ _ _ _ [5] _ hl (by decide) hf (by decide) [145, 224, 1, 2, 0, 0, 0, 3, 0, 0, 0, 4, 0, 0, 0, 5] 16 0 (by decide) rfl (by decide)).mono ?_
  rintro e w2 ⟨A2, c2, rfl, hx, hb⟩
  replace hl := hl.below hb
  replace k1 := k1.call hb
  replace hB := hB.trans (hb.mono hB.size)
  have hb2 := hB.size
  clear hb
  go_wp2_with (at_builtin; first | (refine wpList_app _ rfl (.tmp 15) (.tmp 16) 27 rfl w2.heap.size 5 Try.underlying27 byte_info (some ⟨w2.heap.size, 0, none⟩) 0 0 [] rfl (own_empty w2 _ _ (Nat.le_refl _)) A2 16 c2 [145, 224, 1, 2, 0, 0, 0, 3, 0, 0, 0, 4, 0, 0, 0, 5] rfl (hx.alloc _) (by omega) (by simp) ?_; intro A4 c4 w4 hown4 hb4; rw [Nat.zero_add] at hown4; rw [List.nil_append] at hown4; replace hb4 : Below w2.heap.size w2 w4 := ((Below.refl _ w2).alloc (Nat.le_refl _) _).trans hb4; have hsz4 := hb4.size; rw [Nat.zero_add]) | go_loud (refine wpList_app _ rfl (.tmp 17) (.tmp 18) 27 rfl w2.heap.size 5 Try.underlying27 byte_info A4 16 c4 [145, 224, 1, 2, 0, 0, 0, 3, 0, 0, 0, 4, 0, 0, 0, 5] rfl (hown4.alloc _) (some ⟨w4.heap.size, 0, none⟩) 1 1 [9] rfl (Bs.lit1 w4 9 _) (by omega) (by simp; omega) ?_; intro A5 c5 w5 hown5 hb5))
  have hb5' : Below w2.heap.size w2 w5 := (hb4.alloc hb4.size _).trans hb5
  replace hx := hx.below hb5'
  replace hl := hl.below hb5'
  replace k1 := k1.call hb5'
  replace hB := hB.trans (hb5'.mono hB.size)
  refine (read_lit K A5 17 c5 ([145, 224, 1, 2, 0, 0, 0, 3, 0, 0, 0, 4, 0, 0, 0, 5] ++ [9]) w5 hown5.bs (by decide) ⟨false, true, true, 96, 258, 3, 4, [5]⟩ 16 0 (by decide) (by decide) (by decide)).mono ?_
  rintro e w6 ⟨B6, d6, rfl, hy, hb⟩
  dsimp only [hdV, List.length_cons, List.length_nil] at hy ⊢
  replace hx := hx.below hb
  replace hl := hl.below hb
  replace k1 := k1.call hb
  replace hB := hB.trans (hb.mono hB.size)
  clear hb hb5' hb4 hb5 hown4 hown5
  have fk1 := k1.eight.1
  clear fk1
  have k2 := Box.new w6 [.bool false, .bool true, .bool true, .int .i64 96, .int .u16 258, .int .u32 3, .int .u32 4, .slice B6 1 d6] 26
  replace hx := hx.alloc (.cells #[.bool false, .bool true, .bool true, .int .i64 96, .int .u16 258, .int .u32 3, .int .u32 4, .slice B6 1 d6] 26)
  replace hl := hl.alloc (.cells #[.bool false, .bool true, .bool true, .int .i64 96, .int .u16 258, .int .u32 3, .int .u32 4, .slice B6 1 d6] 26)
  replace hy := hy.alloc (.cells #[.bool false, .bool true, .bool true, .int .i64 96, .int .u16 258, .int .u32 3, .int .u32 4, .slice B6 1 d6] 26)
  replace k1 := k1.alloc (.cells #[.bool false, .bool true, .bool true, .int .i64 96, .int .u16 258, .int .u32 3, .int .u32 4, .slice B6 1 d6] 26)
  replace hB := hB.alloc hB.size (.cells #[.bool false, .bool true, .bool true, .int .i64 96, .int .u16 258, .int .u32 3, .int .u32 4, .slice B6 1 d6] 26)
  have fk1 := k1.eight.1
  have fk2 := k2.eight.1
  go_wp2_with fail
  refine (size_lit K false true true 96 258 3 4 _ 1 1 [5] _ hl (by decide) hf (by decide) 16 (by decide)).mono ?_
  rintro e w7 ⟨rfl, hb⟩
  clear fk1 fk2
  replace hx := hx.below hb
  replace hl := hl.below hb
  replace hy := hy.below hb
  replace k1 := k1.call hb
  replace k2 := k2.call hb
  replace hB := hB.trans (hb.mono hB.size)
  clear hb
  have fk1 := k1.eight.1
  have fk2 := k2.eight.1
  have t1 : (convert 27 9 (.slice A2 16 c2)).run Try.prog w7 = .ok (.string ⟨#[145, 224, 1, 2, 0, 0, 0, 3, 0, 0, 0, 4, 0, 0, 0, 5]⟩) w7 := str_of hx
  go_wp2_with fail
  refine (rsameH_any false true true 96 258 3 4 B6 1 d6 [5] false true true 96 258 3 4 (some ⟨w.heap.size, 0, none⟩) 1 1 [5] _ hy hl).mono ?_
  rintro e w8 ⟨rfl, hb⟩
  clear t1
  clear fk1 fk2
  replace hx := hx.below hb
  replace hl := hl.below hb
  replace hy := hy.below hb
  replace k1 := k1.call hb
  replace k2 := k2.call hb
  replace hB := hB.trans (hb.mono hB.size)
  clear hb
  have fk1 := k1.eight.1
  have fk2 := k2.eight.1
  have t2 : decide ((⟨false, true, true, 96, 258, 3, 4, [5]⟩ : Hd) = ⟨false, true, true, 96, 258, 3, 4, [5]⟩) = true := decide_eq_true rfl
  rw [t2]
  clear t2
  go_wp2_with fail
  refine (right_lit K false true true 96 258 3 4 _ 1 1 [5] _ hl (by decide) hf (by decide) true (by decide)).mono ?_
  rintro e w9 ⟨rfl, hb⟩
  clear fk1 fk2
  replace hx := hx.below hb
  replace hl := hl.below hb
  replace hy := hy.below hb
  replace k1 := k1.call hb
  replace k2 := k2.call hb
  replace hB := hB.trans (hb.mono hB.size)
  clear hb
  have fk1 := k1.eight.1
  have fk2 := k2.eight.1
  go_wp2_with fail
  go_ret
  exact ⟨rfl, hB⟩
end

end Go.Proofs.Ytjbpjmjieomoiaa
