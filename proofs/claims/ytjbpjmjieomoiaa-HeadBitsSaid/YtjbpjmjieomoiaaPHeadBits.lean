/-
  For every input the statement HeadBits holds: the function of that name returns true, and what it was handed reads as before. No condition.
-/
import Derived.Test.YtjbpjmjieomoiaaRows
import Derived.WalkKit
import Derived.ProofKit
import Derived.OpenShut
import Derived.ShutString
import Derived.ChangeOld
import Derived.Below
import Derived.Lib.SmallJoins
import Derived.Deep.Grids
import Derived.ChangeMaps5
import Derived.SliceStrings
import Derived.Test.YtjbpjmjieomoiaaHeadBitsW
import Derived.Test.YtjbpjmjieomoiaaHeadH
import Derived.Test.YtjbpjmjieomoiaaHeadO
import Derived.Test.YtjbpjmjieomoiaaOpen8
namespace Go.Proofs.Ytjbpjmjieomoiaa.headBits
open Go.ChangeShapes Go.WideShapes Go.ChangeAt Go.RowKit
open Go.Deep (open_bools)
set_option linter.unusedVariables false

theorem own : ownKnob Try.prog.godebug = none := by kernel_rfl
theorem laidOut : laidOutB Try.prog = true := by kernel_rfl

theorem walk (a0_0 : Bool) (a0_1 : Bool) (a0_2 : Bool) (a0_3 : Int) (a0_4 : Int) (a0_5 : Int) (a0_6 : Int) (a0_7 : Option Addr) (len0_7 cap0_7 : Nat) (z0_7 : List Int) (a1_0 : Bool) (a1_1 : Bool) (a1_2 : Bool) (a1_3 : Int) (a1_4 : Int) (a1_5 : Int) (a1_6 : Int) (a1_7 : Option Addr) (len1_7 cap1_7 : Nat) (z1_7 : List Int) (a2 : Int) (W : World) (w0_3 : (Lit.int .i64 a0_3).wf = true) (w0_4 : (Lit.int .u16 a0_4).wf = true) (w0_5 : (Lit.int .u32 a0_5).wf = true) (w0_6 : (Lit.int .u32 a0_6).wf = true) (w0_7 : IsRow .u32 W a0_7 len0_7 cap0_7 z0_7) (w1_3 : (Lit.int .i64 a1_3).wf = true) (w1_4 : (Lit.int .u16 a1_4).wf = true) (w1_5 : (Lit.int .u32 a1_5).wf = true) (w1_6 : (Lit.int .u32 a1_6).wf = true) (w1_7 : IsRow .u32 W a1_7 len1_7 cap1_7 z1_7) (w2 : (Lit.int .u8 a2).wf = true) :
    Calls Try.prog 5 #[.agg #[.bool a0_0, .bool a0_1, .bool a0_2, .int .i64 a0_3, .int .u16 a0_4, .int .u32 a0_5, .int .u32 a0_6, .slice a0_7 len0_7 cap0_7], .agg #[.bool a1_0, .bool a1_1, .bool a1_2, .int .i64 a1_3, .int .u16 a1_4, .int .u32 a1_5, .int .u32 a1_6, .slice a1_7 len1_7 cap1_7], .int .u8 a2] W fun e w' => e = .returned (.bool true) ∧ Below W.heap.size W w' := by
  obtain ⟨l, hl, hk⟩ := us_of_row w0_7
  obtain ⟨q, rfl, hq⟩ := nat_u16 w0_4
  obtain ⟨t, rfl, ht⟩ := nat_u32 w0_5
  obtain ⟨r, rfl, hr⟩ := nat_u32 w0_6
  obtain ⟨l', hl', hk'⟩ := us_of_row w1_7
  obtain ⟨q', rfl, hq'⟩ := nat_u16 w1_4
  obtain ⟨t', rfl, ht'⟩ := nat_u32 w1_5
  obtain ⟨r', rfl, hr'⟩ := nat_u32 w1_6
  obtain ⟨fld, rfl, hc⟩ := nat_u8 w2
  exact headBits_all head_calls a0_0 a0_1 a0_2 a0_3 q t r a0_7 len0_7 cap0_7 l a1_0 a1_1 a1_2 a1_3 q' t' r' a1_7 len1_7 cap1_7 l' fld W hl ⟨hq, ht, hr, hk⟩ w0_3 ⟨hq', ht', hr', hk'⟩ w1_3 hc

set_option maxRecDepth 100000 in
theorem lifted (os : Os) (started : os.Started) (H : Type) (enc : TypeId × Value → H) :
    ReturnsInHanded {} Try.checked os 5 .any (Rows.headBitsSpec.pre6 enc Try.prog Try.f5 Rows.headBitsRow.domain false) (Rows.headBitsSpec.post enc Try.prog Try.f5 false true false false) := by
  refine returnsInHanded_of_change (C := Try.checked) own started (by kernel_rfl) Try.func5
    (ChangeSpec.witness6 (enc := enc) (C := Try.checked) false ⟨#[], #[.agg #[.bool false, .bool false, .bool false, .int .i64 0, .int .u16 0, .int .u32 0, .int .u32 0, .slice none 0 0], .agg #[.bool false, .bool false, .bool false, .int .i64 0, .int .u16 0, .int .u32 0, .int .u32 0, .slice none 0 0], .int .u8 0], []⟩ 8 (by kernel_rfl) (by kernel_rfl) (by kernel_rfl) (by kernel_rfl)) ?_
  intro W base args ds gs before hval0 hW hcnd _
  have hval : ∀ (j : Nat) t v, Try.f5.params[j]? = some t → args[j]? = some v → Value.okWide Try.prog W .any base t v := hval0
  have hW' := hW
  obtain ⟨p, q, hA0, hV, rfl, hfz, hnd⟩ := hW
  have hA : DataW.TrodAll enc Try.prog W 0 (fun _ => true) true Try.f5.params.toList args.toList ds p := hA0
  rw [Try.params5] at hA hval
  obtain ⟨v0, vs0, d0, ds0, p0, q0, hargs, rfl, rfl, h0, r0⟩ := trodAll_cons hA
  obtain ⟨v1, vs1, d1, ds1, p1, q1, rfl, rfl, rfl, h1, r1⟩ := trodAll_cons r0
  obtain ⟨v2, vs2, d2, ds2, p2, q2, rfl, rfl, rfl, h2, r2⟩ := trodAll_cons r1
  obtain ⟨rfl, rfl, rfl⟩ := trodAll_nil r2
  obtain rfl : args = #[v0, v1, v2] := by cases args; simp_all
  obtain ⟨rfl, rfl⟩ := trodVars_none hV
  have k0 := h0
  have lt0 : ∀ x ∈ p0, x.block < W.heap.size := by obtain ⟨m, hm⟩ := k0; exact DataW.trod_lt m _ _ _ hm
  obtain ⟨x0_0, x0_1, x0_2, x0_3, x0_4, x0_5, x0_6, x0_7, y0_0, y0_1, y0_2, y0_3, y0_4, y0_5, y0_6, y0_7, n0, rfl, rfl, rfl, g0_0, g0_1, g0_2, g0_3, g0_4, g0_5, g0_6, g0_7⟩ := open_agg8 Try.underlying26 (by kernel_rfl) (by kernel_rfl) (hval 0 26 v0 rfl rfl) h0
  obtain ⟨a0_0, e0_0, _⟩ := DataW.trod_bool Try.underlying4 g0_0
  obtain rfl : x0_0 = .bool a0_0 := by simpa using e0_0
  clear e0_0
  obtain ⟨a0_1, e0_1, _⟩ := DataW.trod_bool Try.underlying4 g0_1
  obtain rfl : x0_1 = .bool a0_1 := by simpa using e0_1
  clear e0_1
  obtain ⟨a0_2, e0_2, _⟩ := DataW.trod_bool Try.underlying4 g0_2
  obtain rfl : x0_2 = .bool a0_2 := by simpa using e0_2
  clear e0_2
  obtain ⟨a0_3, e0_3, _, w0_3⟩ := DataW.trod_int Try.underlying3 g0_3
  obtain rfl : x0_3 = .int .i64 a0_3 := by simpa using e0_3
  clear e0_3
  obtain ⟨a0_4, e0_4, _, w0_4⟩ := DataW.trod_int Try.underlying22 g0_4
  obtain rfl : x0_4 = .int .u16 a0_4 := by simpa using e0_4
  clear e0_4
  obtain ⟨a0_5, e0_5, _, w0_5⟩ := DataW.trod_int Try.underlying23 g0_5
  obtain rfl : x0_5 = .int .u32 a0_5 := by simpa using e0_5
  clear e0_5
  obtain ⟨a0_6, e0_6, _, w0_6⟩ := DataW.trod_int Try.underlying23 g0_6
  obtain rfl : x0_6 = .int .u32 a0_6 := by simpa using e0_6
  clear e0_6
  obtain ⟨a0_7, len0_7, cap0_7, z0_7, e0_7, w0_7⟩ : ∃ (a : Option Addr) (l c : Nat) (zs : List Int), x0_7 = .slice a l c ∧ IsRow .u32 W a l c zs := by
    rcases open_ints Try.underlying24 Try.underlying23 (by kernel_rfl) g0_7 with ⟨hcs, _⟩ | ⟨x, l, c, zs, hcs, _, hl, hm, hz, _, hcell, hwz⟩
    · exact ⟨none, 0, 0, [], by simpa using hcs, .inl ⟨rfl, rfl, rfl, rfl⟩⟩
    · exact ⟨some x, l, c, zs, by simpa using hcs, .inr ⟨x, rfl, hl, hm, by simpa using hz, hcell, hwz⟩⟩
  subst e0_7
  have k1 := h1
  have lt1 : ∀ x ∈ p1, x.block < W.heap.size := by obtain ⟨m, hm⟩ := k1; exact DataW.trod_lt m _ _ _ hm
  obtain ⟨x1_0, x1_1, x1_2, x1_3, x1_4, x1_5, x1_6, x1_7, y1_0, y1_1, y1_2, y1_3, y1_4, y1_5, y1_6, y1_7, n1, rfl, rfl, rfl, g1_0, g1_1, g1_2, g1_3, g1_4, g1_5, g1_6, g1_7⟩ := open_agg8 Try.underlying26 (by kernel_rfl) (by kernel_rfl) (hval 1 26 v1 rfl rfl) h1
  obtain ⟨a1_0, e1_0, _⟩ := DataW.trod_bool Try.underlying4 g1_0
  obtain rfl : x1_0 = .bool a1_0 := by simpa using e1_0
  clear e1_0
  obtain ⟨a1_1, e1_1, _⟩ := DataW.trod_bool Try.underlying4 g1_1
  obtain rfl : x1_1 = .bool a1_1 := by simpa using e1_1
  clear e1_1
  obtain ⟨a1_2, e1_2, _⟩ := DataW.trod_bool Try.underlying4 g1_2
  obtain rfl : x1_2 = .bool a1_2 := by simpa using e1_2
  clear e1_2
  obtain ⟨a1_3, e1_3, _, w1_3⟩ := DataW.trod_int Try.underlying3 g1_3
  obtain rfl : x1_3 = .int .i64 a1_3 := by simpa using e1_3
  clear e1_3
  obtain ⟨a1_4, e1_4, _, w1_4⟩ := DataW.trod_int Try.underlying22 g1_4
  obtain rfl : x1_4 = .int .u16 a1_4 := by simpa using e1_4
  clear e1_4
  obtain ⟨a1_5, e1_5, _, w1_5⟩ := DataW.trod_int Try.underlying23 g1_5
  obtain rfl : x1_5 = .int .u32 a1_5 := by simpa using e1_5
  clear e1_5
  obtain ⟨a1_6, e1_6, _, w1_6⟩ := DataW.trod_int Try.underlying23 g1_6
  obtain rfl : x1_6 = .int .u32 a1_6 := by simpa using e1_6
  clear e1_6
  obtain ⟨a1_7, len1_7, cap1_7, z1_7, e1_7, w1_7⟩ : ∃ (a : Option Addr) (l c : Nat) (zs : List Int), x1_7 = .slice a l c ∧ IsRow .u32 W a l c zs := by
    rcases open_ints Try.underlying24 Try.underlying23 (by kernel_rfl) g1_7 with ⟨hcs, _⟩ | ⟨x, l, c, zs, hcs, _, hl, hm, hz, _, hcell, hwz⟩
    · exact ⟨none, 0, 0, [], by simpa using hcs, .inl ⟨rfl, rfl, rfl, rfl⟩⟩
    · exact ⟨some x, l, c, zs, by simpa using hcs, .inr ⟨x, rfl, hl, hm, by simpa using hz, hcell, hwz⟩⟩
  subst e1_7
  obtain ⟨a2, rfl, rfl, rfl, w2⟩ := open_int Try.underlying5 (hval 2 5 v2 rfl rfl) h2
  clear hA0 hval0
  refine (walk a0_0 a0_1 a0_2 a0_3 a0_4 a0_5 a0_6 a0_7 len0_7 cap0_7 z0_7 a1_0 a1_1 a1_2 a1_3 a1_4 a1_5 a1_6 a1_7 len1_7 cap1_7 z1_7 a2 W w0_3 w0_4 w0_5 w0_6 w0_7 w1_3 w1_4 w1_5 w1_6 w1_7 w2).mono fun e W' ⟨he, bel⟩ => ?_
  subst he
  exact ⟨_, rfl, _, _, _, [], _, [], hW', trodAll_mk1 (shut_bool Try.underlying4 _), (trodAll_cons_mk (Below.trod laidOut (by kernel_rfl) (of_decide_eq_true (by kernel_rfl)) k0 bel lt0) (trodAll_cons_mk (Below.trod laidOut (by kernel_rfl) (of_decide_eq_true (by kernel_rfl)) k1 bel lt1) (trodAll_cons_mk (shut_int Try.underlying5 w2) trodAll_mk0))), rfl, bel.frame _, fun h => by cases h⟩

theorem over : Rows.headBitsRow.holds Try.pinned (OpenSpec.ofChange Rows.headBitsSpec) :=
  OpenClaim.holds_of_wide 5 Try.f5 rfl rfl rfl rfl rfl rfl rfl ⟨rfl, rfl, rfl, rfl, rfl⟩ rfl rfl rfl rfl rfl (by kernel_rfl) Try.func5 (by kernel_rfl)
    (of_decide_eq_true (by kernel_rfl)) (by unfold Func.isWrapper; first | (rw [if_pos (by decide +kernel)]; kernel_rfl) | (rw [if_neg (by decide +kernel)]; exact ⟨rfl, rfl⟩))
    (fun os started H enc _ => lifted os started H enc)

theorem proved : Rows.HeadBitsSaid := over
#print axioms proved
end Go.Proofs.Ytjbpjmjieomoiaa.headBits
