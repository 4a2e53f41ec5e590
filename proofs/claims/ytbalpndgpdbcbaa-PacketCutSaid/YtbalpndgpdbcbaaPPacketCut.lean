/-
  For every input the statement PacketCut holds: the function of that name returns true, and what it was handed reads as before. No condition.
-/
import Derived.Test.YtbalpndgpdbcbaaRows
import Derived.WalkKit
import Derived.ProofKit
import Derived.OpenShut
import Derived.ShutString
import Derived.ChangeOld
import Derived.Below
import Derived.Lib.SmallJoins
import Derived.Deep.Grids
import Derived.ChangeMaps5
import Derived.SliceStrings
import Derived.Test.YtbalpndgpdbcbaaPackCutW
import Derived.Test.YtbalpndgpdbcbaaPackG
import Derived.Test.YtbalpndgpdbcbaaHeadO
import Derived.Test.YtbalpndgpdbcbaaOpenW8x1x1x1x1
import Derived.Test.YtbalpndgpdbcbaaOpen8
namespace Go.Proofs.Ytbalpndgpdbcbaa.packetCut
open Go.ChangeShapes Go.WideShapes Go.ChangeAt Go.RowKit
open Go.Deep (open_bools)
set_option linter.unusedVariables false

theorem own : ownKnob Try.prog.godebug = none := by kernel_rfl
theorem laidOut : laidOutB Try.prog = true := by kernel_rfl

theorem walk (a0_0_0 : Bool) (a0_0_1 : Bool) (a0_0_2 : Bool) (a0_0_3 : Int) (a0_0_4 : Int) (a0_0_5 : Int) (a0_0_6 : Int) (a0_0_7 : Option Addr) (len0_0_7 cap0_0_7 : Nat) (z0_0_7 : List Int) (a0_1 : Int) (a0_2 : Option Addr) (len0_2 cap0_2 : Nat) (z0_2 : List Int) (a0_3 : Option Addr) (len0_3 cap0_3 : Nat) (z0_3 : List Int) (a0_4 : Int) (a1 : Int) (a2 : Option Addr) (len2 cap2 : Nat) (z2 : List Int) (W : World) (w0_0_3 : (Lit.int .i64 a0_0_3).wf = true) (w0_0_4 : (Lit.int .u16 a0_0_4).wf = true) (w0_0_5 : (Lit.int .u32 a0_0_5).wf = true) (w0_0_6 : (Lit.int .u32 a0_0_6).wf = true) (w0_0_7 : IsRow .u32 W a0_0_7 len0_0_7 cap0_0_7 z0_0_7) (w0_1 : (Lit.int .u16 a0_1).wf = true) (w0_2 : IsRow .u8 W a0_2 len0_2 cap0_2 z0_2) (w0_3 : IsRow .u8 W a0_3 len0_3 cap0_3 z0_3) (w0_4 : (Lit.int .i64 a0_4).wf = true) (w1 : (Lit.int .u16 a1).wf = true) (w2 : IsRow .u8 W a2 len2 cap2 z2) :
    Calls Try.prog 5 #[.agg #[.bool a0_0_0, .bool a0_0_1, .bool a0_0_2, .int .i64 a0_0_3, .int .u16 a0_0_4, .int .u32 a0_0_5, .int .u32 a0_0_6, .slice a0_0_7 len0_0_7 cap0_0_7, .int .u16 a0_1, .slice a0_2 len0_2 cap0_2, .slice a0_3 len0_3 cap0_3, .int .i64 a0_4], .int .u16 a1, .slice a2 len2 cap2] W fun e w' => e = .returned (.bool true) ∧ Below W.heap.size W w' := by
  obtain ⟨l, hl, hk⟩ := us_of_row w0_0_7
  obtain ⟨q, rfl, hq⟩ := nat_u16 w0_0_4
  obtain ⟨t, rfl, ht⟩ := nat_u32 w0_0_5
  obtain ⟨r, rfl, hr⟩ := nat_u32 w0_0_6
  obtain ⟨pr, rfl, hpr⟩ := nat_u16 w0_1
  obtain ⟨x, hx⟩ := bs_of_row w0_2
  obtain ⟨y, hy⟩ := bs_of_row w0_3
  obtain ⟨cut, rfl, hc⟩ := nat_u16 w1
  obtain ⟨s, hs⟩ := bs_of_row w2
  exact packetCut_all pack_calls ⟨⟨a0_0_0, a0_0_1, a0_0_2, a0_0_3, q, t, r, l⟩, pr, x, y, a0_4⟩ a0_0_7 len0_0_7 cap0_0_7 a0_2 len0_2 cap0_2 a0_3 len0_3 cap0_3 cut a2 len2 cap2 s W ⟨hl, hx, hy⟩ hs hc ⟨⟨hq, ht, hr, hk⟩, hpr⟩ w0_0_3 w0_4

set_option maxRecDepth 100000 in
theorem lifted (os : Os) (started : os.Started) (H : Type) (enc : TypeId × Value → H) :
    ReturnsInHanded {} Try.checked os 5 .any (Rows.packetCutSpec.pre6 enc Try.prog Try.f5 Rows.packetCutRow.domain false) (Rows.packetCutSpec.post enc Try.prog Try.f5 false true false false) := by
  refine returnsInHanded_of_change (C := Try.checked) own started (by kernel_rfl) Try.func5
    (ChangeSpec.witness6 (enc := enc) (C := Try.checked) false ⟨#[], #[.agg #[.bool false, .bool false, .bool false, .int .i64 0, .int .u16 0, .int .u32 0, .int .u32 0, .slice none 0 0, .int .u16 0, .slice none 0 0, .slice none 0 0, .int .i64 0], .int .u16 0, .slice none 0 0], []⟩ 8 (by kernel_rfl) (by kernel_rfl) (by kernel_rfl) (by kernel_rfl)) ?_
  intro W base args ds gs before hval0 hW hcnd _
  have hval : ∀ (j : Nat) t v, Try.f5.params[j]? = some t → args[j]? = some v → Value.okWide Try.prog W .any base t v := hval0
  have hW' := hW
  obtain ⟨p, q, hA0, hV, rfl, hfz, hnd⟩ := hW
  have hA : DataW.TrodAll enc Try.prog W 0 (fun _ => true) true Try.f5.params.toList args.toList ds p := hA0
  rw [Try.params5] at hA hval
  obtain ⟨v0, vs0, d0, ds0, p0, q0, hargs, rfl, rfl, h0, r0⟩ := trodAll_cons hA
  obtain ⟨v1, vs1, d1, ds1, p1, q1, rfl, rfl, rfl, h1, r1⟩ := trodAll_cons r0
  obtain ⟨v2, vs2, d2, ds2, p2, q2, rfl, rfl, rfl, h2, r2⟩ := trodAll_cons r1
  obtain ⟨rfl, rfl, rfl⟩ := trodAll_nil r2
  obtain rfl : args = #[v0, v1, v2] := by cases args; simp_all
  obtain ⟨rfl, rfl⟩ := trodVars_none hV
  have k0 := h0
  have lt0 : ∀ x ∈ p0, x.block < W.heap.size := by obtain ⟨m, hm⟩ := k0; exact DataW.trod_lt m _ _ _ hm
  obtain ⟨x0_0c0, x0_0c1, x0_0c2, x0_0c3, x0_0c4, x0_0c5, x0_0c6, x0_0c7, x0_1, x0_2, x0_3, x0_4, y0_0, y0_1, y0_2, y0_3, y0_4, n0, rfl, rfl, rfl, g0_0, g0_1, g0_2, g0_3, g0_4⟩ := open_aggW8x1x1x1x1 Try.underlying29 (by kernel_rfl) (by kernel_rfl) (hval 0 29 v0 rfl rfl) h0
  obtain ⟨x0_0_0z, x0_0_1z, x0_0_2z, x0_0_3z, x0_0_4z, x0_0_5z, x0_0_6z, x0_0_7z, y0_0_0, y0_0_1, y0_0_2, y0_0_3, y0_0_4, y0_0_5, y0_0_6, y0_0_7, n0_0, hc0_0, hy0_0, g0_0_0, g0_0_1, g0_0_2, g0_0_3, g0_0_4, g0_0_5, g0_0_6, g0_0_7⟩ := trod_agg8 Try.underlying26 (by kernel_rfl) (by kernel_rfl) g0_0
  simp only [List.cons.injEq, and_true] at hc0_0
  obtain ⟨rfl, rfl, rfl, rfl, rfl, rfl, rfl, rfl⟩ := hc0_0
  obtain ⟨a0_0_0, e0_0_0, _⟩ := DataW.trod_bool Try.underlying4 g0_0_0
  obtain rfl : x0_0c0 = .bool a0_0_0 := by simpa using e0_0_0
  clear e0_0_0
  obtain ⟨a0_0_1, e0_0_1, _⟩ := DataW.trod_bool Try.underlying4 g0_0_1
  obtain rfl : x0_0c1 = .bool a0_0_1 := by simpa using e0_0_1
  clear e0_0_1
  obtain ⟨a0_0_2, e0_0_2, _⟩ := DataW.trod_bool Try.underlying4 g0_0_2
  obtain rfl : x0_0c2 = .bool a0_0_2 := by simpa using e0_0_2
  clear e0_0_2
  obtain ⟨a0_0_3, e0_0_3, _, w0_0_3⟩ := DataW.trod_int Try.underlying3 g0_0_3
  obtain rfl : x0_0c3 = .int .i64 a0_0_3 := by simpa using e0_0_3
  clear e0_0_3
  obtain ⟨a0_0_4, e0_0_4, _, w0_0_4⟩ := DataW.trod_int Try.underlying22 g0_0_4
  obtain rfl : x0_0c4 = .int .u16 a0_0_4 := by simpa using e0_0_4
  clear e0_0_4
  obtain ⟨a0_0_5, e0_0_5, _, w0_0_5⟩ := DataW.trod_int Try.underlying23 g0_0_5
  obtain rfl : x0_0c5 = .int .u32 a0_0_5 := by simpa using e0_0_5
  clear e0_0_5
  obtain ⟨a0_0_6, e0_0_6, _, w0_0_6⟩ := DataW.trod_int Try.underlying23 g0_0_6
  obtain rfl : x0_0c6 = .int .u32 a0_0_6 := by simpa using e0_0_6
  clear e0_0_6
  obtain ⟨a0_0_7, len0_0_7, cap0_0_7, z0_0_7, e0_0_7, w0_0_7⟩ : ∃ (a : Option Addr) (l c : Nat) (zs : List Int), x0_0c7 = .slice a l c ∧ IsRow .u32 W a l c zs := by
    rcases open_ints Try.underlying24 Try.underlying23 (by kernel_rfl) g0_0_7 with ⟨hcs, _⟩ | ⟨x, l, c, zs, hcs, _, hl, hm, hz, _, hcell, hwz⟩
    · exact ⟨none, 0, 0, [], by simpa using hcs, .inl ⟨rfl, rfl, rfl, rfl⟩⟩
    · exact ⟨some x, l, c, zs, by simpa using hcs, .inr ⟨x, rfl, hl, hm, by simpa using hz, hcell, hwz⟩⟩
  subst e0_0_7
  obtain ⟨a0_1, e0_1, _, w0_1⟩ := DataW.trod_int Try.underlying22 g0_1
  obtain rfl : x0_1 = .int .u16 a0_1 := by simpa using e0_1
  clear e0_1
  obtain ⟨a0_2, len0_2, cap0_2, z0_2, e0_2, w0_2⟩ : ∃ (a : Option Addr) (l c : Nat) (zs : List Int), x0_2 = .slice a l c ∧ IsRow .u8 W a l c zs := by
    rcases open_ints Try.underlying27 Try.underlying5 (by kernel_rfl) g0_2 with ⟨hcs, _⟩ | ⟨x, l, c, zs, hcs, _, hl, hm, hz, _, hcell, hwz⟩
    · exact ⟨none, 0, 0, [], by simpa using hcs, .inl ⟨rfl, rfl, rfl, rfl⟩⟩
    · exact ⟨some x, l, c, zs, by simpa using hcs, .inr ⟨x, rfl, hl, hm, by simpa using hz, hcell, hwz⟩⟩
  subst e0_2
  obtain ⟨a0_3, len0_3, cap0_3, z0_3, e0_3, w0_3⟩ : ∃ (a : Option Addr) (l c : Nat) (zs : List Int), x0_3 = .slice a l c ∧ IsRow .u8 W a l c zs := by
    rcases open_ints Try.underlying27 Try.underlying5 (by kernel_rfl) g0_3 with ⟨hcs, _⟩ | ⟨x, l, c, zs, hcs, _, hl, hm, hz, _, hcell, hwz⟩
    · exact ⟨none, 0, 0, [], by simpa using hcs, .inl ⟨rfl, rfl, rfl, rfl⟩⟩
    · exact ⟨some x, l, c, zs, by simpa using hcs, .inr ⟨x, rfl, hl, hm, by simpa using hz, hcell, hwz⟩⟩
  subst e0_3
  obtain ⟨a0_4, e0_4, _, w0_4⟩ := DataW.trod_int Try.underlying3 g0_4
  obtain rfl : x0_4 = .int .i64 a0_4 := by simpa using e0_4
  clear e0_4
  obtain ⟨a1, rfl, rfl, rfl, w1⟩ := open_int Try.underlying22 (hval 1 22 v1 rfl rfl) h1
  have k2 := h2
  have lt2 : ∀ x ∈ p2, x.block < W.heap.size := by obtain ⟨m, hm⟩ := k2; exact DataW.trod_lt m _ _ _ hm
  obtain ⟨fuel2, hf2⟩ := h2
  have e2c : v2.cells.toList = [v2] := by obtain ⟨q1, q2, q3, rfl⟩ := okWide_slice Try.underlying27 (hval 2 27 v2 rfl rfl); rfl
  obtain ⟨a2, len2, cap2, z2, e2, w2⟩ : ∃ (a : Option Addr) (l c : Nat) (zs : List Int), v2 = .slice a l c ∧ IsRow .u8 W a l c zs := by
    rw [e2c] at hf2
    rcases open_ints Try.underlying27 Try.underlying5 (by kernel_rfl) hf2 with ⟨hcs, _⟩ | ⟨x, l, c, zs, hcs, _, hl, hm, hz, _, hcell, hwz⟩
    · exact ⟨none, 0, 0, [], by simpa using hcs, .inl ⟨rfl, rfl, rfl, rfl⟩⟩
    · exact ⟨some x, l, c, zs, by simpa using hcs, .inr ⟨x, rfl, hl, hm, by simpa using hz, hcell, hwz⟩⟩
  subst e2
  clear e2c
  clear hA0 hval0
  refine (walk a0_0_0 a0_0_1 a0_0_2 a0_0_3 a0_0_4 a0_0_5 a0_0_6 a0_0_7 len0_0_7 cap0_0_7 z0_0_7 a0_1 a0_2 len0_2 cap0_2 z0_2 a0_3 len0_3 cap0_3 z0_3 a0_4 a1 a2 len2 cap2 z2 W w0_0_3 w0_0_4 w0_0_5 w0_0_6 w0_0_7 w0_1 w0_2 w0_3 w0_4 w1 w2).mono fun e W' ⟨he, bel⟩ => ?_
  subst he
  exact ⟨_, rfl, _, _, _, [], _, [], hW', trodAll_mk1 (shut_bool Try.underlying4 _), (trodAll_cons_mk (Below.trod laidOut (by kernel_rfl) (of_decide_eq_true (by kernel_rfl)) k0 bel lt0) (trodAll_cons_mk (shut_int Try.underlying22 w1) (trodAll_cons_mk (Below.trod laidOut (by kernel_rfl) (of_decide_eq_true (by kernel_rfl)) k2 bel lt2) trodAll_mk0))), rfl, bel.frame _, fun h => by cases h⟩

theorem over : Rows.packetCutRow.holds Try.pinned (OpenSpec.ofChange Rows.packetCutSpec) :=
  OpenClaim.holds_of_wide 5 Try.f5 rfl rfl rfl rfl rfl rfl rfl ⟨rfl, rfl, rfl, rfl, rfl⟩ rfl rfl rfl rfl rfl (by kernel_rfl) Try.func5 (by kernel_rfl)
    (of_decide_eq_true (by kernel_rfl)) (by unfold Func.isWrapper; first | (rw [if_pos (by decide +kernel)]; kernel_rfl) | (rw [if_neg (by decide +kernel)]; exact ⟨rfl, rfl⟩))
    (fun os started H enc _ => lifted os started H enc)

theorem proved : Rows.PacketCutSaid := over
#print axioms proved
end Go.Proofs.Ytbalpndgpdbcbaa.packetCut
