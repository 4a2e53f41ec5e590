/-
  What the functions of package place come to: end, behind.
-/
import Derived.Test.YtogjkkhboaflcaaPlaceF
namespace Go.Proofs.Ytogjkkhboaflcaa
open Go.RowKit
set_option linter.unusedVariables false
set_option linter.unusedSimpArgs false

def endP (l : List Pl) : Int := match l.getLast? with
  | some p => p.a + p.s
  | none => 0
def addP (l : List Pl) (f z : Int) : List Pl := if 0 < z then l ++ [⟨f, endP l, z⟩] else l
def behP (l : List Pl) (f : Int) : List Int → List Pl
  | [] => l
  | z :: zs => behP (addP l f z) (f + 1) zs
theorem endP_snoc (l : List Pl) (p : Pl) : endP (l ++ [p]) = p.a + p.s := by simp [endP]
theorem endP_last {l : List Pl} {n : Nat} (hl : l.length = n) (hn : 0 < n) : endP l = (l[n - 1]'(by omega)).a + (l[n - 1]'(by omega)).s := by
  subst hl
  unfold endP
  rw [List.getLast?_eq_getElem?, List.getElem?_eq_getElem (by omega)]
theorem endP_addP (l : List Pl) (f z : Int) : endP (addP l f z) = endP l + (if 0 < z then z else 0) := by
  unfold addP
  split
  · rw [endP_snoc]
  · simp
theorem addP_length (l : List Pl) (f z : Int) : (addP l f z).length ≤ l.length + 1 := by unfold addP; split <;> simp
theorem behP_snoc : ∀ (zs : List Int) (l : List Pl) (f z : Int), behP l f (zs ++ [z]) = addP (behP l f zs) (f + zs.length) z
  | [], l, f, z => by simp [behP]
  | y :: zs, l, f, z => by
    show behP (addP l f y) (f + 1) (zs ++ [z]) = _
    rw [behP_snoc zs]
    show _ = addP (behP (addP l f y) (f + 1) zs) (f + ((y :: zs).length : Nat)) z
    rw [List.length_cons, show (f + 1 + (zs.length : Int)) = f + ((zs.length + 1 : Nat) : Int) by omega]
theorem behP_succ {zs : List Int} {k : Nat} (hk : k < zs.length) (l : List Pl) (f : Int) : behP l f (zs.take (k + 1)) = addP (behP l f (zs.take k)) (f + k) zs[k] := by
  rw [List.take_succ_eq_append_getElem hk, behP_snoc, List.length_take, Nat.min_eq_left (by omega)]

set_option maxHeartbeats 1000000 in
theorem plend_any (A : Option Addr) (n c : Nat) (l : List Pl) (w : World) (hl : Pls w A n c l) (h1 : 0 ≤ endP l) (h2 : endP l ≤ 100000000) :
    Calls Try.prog 25 #[.slice A n c] w (Says w (.int .i64 (endP l))) := by
  have hln := hl.len
  obtain ⟨hb1, hb2⟩ := hl.bounds
  rcases Nat.eq_zero_or_pos n with h0 | h0
  · subst h0
    have hz : Hid (endP l = 0) := Lib.hid (by rw [List.eq_nil_of_length_eq_zero hln]; rfl)
    generalize endP l = z at *
    go_enter Try.func25, Try.ntmps25
    go_wp2_with fail
    go_ret
    exact ⟨by rw [hz.out]; rfl, Below.refl _ _⟩
  · obtain ⟨b, o, rfl, hlt, hc⟩ := hl.at_ h0
    have hck := hc (n - 1) (by omega)
    have hE := Lib.hid (endP_last hln h0)
    clear hc
    generalize l[n - 1]'(by omega) = p at *
    obtain ⟨f, a, s⟩ := p
    generalize endP l = z at *
    (try simp only at hck)
    (try simp only at hE)
    obtain ⟨k, rfl⟩ : ∃ k, n = k + 1 := ⟨n - 1, by omega⟩
    rw [Nat.add_sub_cancel] at hck
    have hw : IntKind.i64.wrap (a + s) = a + s := IntWalk.i64_in _ (by have := hE.out; omega)
    have hne : ((((k + 1 : Nat) : Int)) == 0) = false := by rw [beq_eq_false_iff_ne]; omega
    have hk1 : (((k + 1 : Nat) : Int)) - 1 = (k : Int) := by omega
    go_enter Try.func25, Try.ntmps25
    go_wp2_with fail
    go_ret
    exact ⟨by rw [hE.out]; rfl, below1 _ _⟩

theorem Sl.grown {w w' : World} {A : Option Addr} {n c : Nat} {xs : List Value} {row : Option Nat} (h : Sl w A n c xs) (hg : w.grownBy w' row) (hne : 0 < n → rowOf A ≠ row) : Sl w' A n c xs := by
  refine ⟨h.1, h.2.1, h.2.2.1, h.2.2.2.1, fun hn => ?_⟩
  obtain ⟨b, o, hA, hlt, hc⟩ := Sl.at_ h hn
  refine ⟨b, o, hA, fun i x hx => ?_⟩
  rw [cell_heap (hg.block b hlt (by have := hne hn; rw [hA] at this; exact this))]
  exact hc i x hx
def BehI (base : Nat) (w : World) (l : List Pl) (f : Int) (zs : List Int) (n : Nat) (Z : Option Addr) (m d : Nat) (v i : Value) (W : World) : Prop :=
  ∃ (k q : Nat) (B : Option Addr) (e : Nat), k ≤ m ∧ q ≤ n + k ∧ i = .int .i64 k ∧ v = .slice B q e ∧ OwnPl W base B q e (behP l f (zs.take k)) ∧ Sl W Z m d (zs.map (Value.int .i64)) ∧ (0 < m → rowOf Z ≠ rowOf B) ∧
    0 ≤ endP (behP l f (zs.take k)) ∧ endP (behP l f (zs.take k)) ≤ 10000000 + 1000000 * (k : Int) ∧ Below base w W
/-- What a call hands back: places, a row of the call's own. -/
def GivesBeh (base : Nat) (w : World) (M : Nat) (l : List Pl) (x : Ending) (w' : World) : Prop :=
  ∃ B q e, x = .returned (.slice B q e) ∧ q ≤ M ∧ OwnPl w' base B q e l ∧ Below base w w'

set_option maxRecDepth 100000 in
set_option maxHeartbeats 2000000 in
theorem behind_any (base n c m d : Nat) (A Z : Option Addr) (l : List Pl) (f : Int) (zs : List Int) (w : World) (hl : OwnPl w base A n c l) (hb : base ≤ w.heap.size) (hz : Sl w Z m d (zs.map (Value.int .i64))) (hfar : 0 < m → rowOf Z ≠ rowOf A)
    (hn : n ≤ 1000) (hm : m ≤ 8) (h0 : 0 ≤ endP l) (h1 : endP l ≤ 10000000) (hzs : ∀ z ∈ zs, -10 ≤ z ∧ z ≤ 1000000) (hf : 0 ≤ f ∧ f ≤ 100) :
    Calls Try.prog 16 #[.slice A n c, .int .i64 f, .slice Z m d] w (GivesBeh base w (n + m) (behP l f zs)) := by
  have hzl : zs.length = m := by simpa using hz.len
  obtain ⟨Q, hQ⟩ : ∃ Q, GivesBeh base w (n + m) (behP l f zs) = Q := ⟨_, rfl⟩
  rw [hQ]
  have HQ := Lib.hid hQ
  clear hQ
  have hzle := hz.le
  have hzc := hz.cap
  unfold maxLen at hzc
  go_enter Try.func16, Try.ntmps16
  go_wp2_with fail
  go_loopw [0, 11] (fun v i W => BehI base w l f zs n Z m d v i W) (fun _ i _ => m - (intOf i).toNat)
  case atStart => exact ⟨0, n, A, c, Nat.zero_le _, Nat.le_refl _, rfl, rfl, hl, hz, hfar, h0, by simpa [behP] using h1, Below.refl _ _⟩
  case round =>
    clear hl hz hfar h0 h1
    obtain ⟨k, q, B, e, hk, hq, rfl, rfl, hown, hz, hfar, h0, h1, hB⟩ := hrel
    have hsz := hB.size
    by_cases hkm : k < m
    · obtain ⟨b, o, rfl, hlt, hc⟩ := Sl.at_ hz (by omega)
      have hck := hc k (Value.int .i64 (zs[k]'(by omega))) (by rw [List.getElem?_map, List.getElem?_eq_getElem (by omega)]; rfl)
      have hst := Lib.hid (behP_succ (zs := zs) (k := k) (by omega) l f)
      have hen := Lib.hid (endP_addP (behP l f (zs.take k)) (f + k) (zs[k]'(by omega)))
      have hzk := hzs (zs[k]'(by omega)) (List.getElem_mem _)
      have hkm2 : (k : Int) < m := by omega
      clear hc
      generalize zs[k]'(by omega) = z at *
      obtain ⟨L2, hG2⟩ : ∃ L2, behP l f (zs.take (k + 1)) = L2 := ⟨_, rfl⟩
      rw [hG2] at hst
      replace hG2 := Lib.hid hG2
      generalize behP l f (zs.take k) = L at *
      by_cases hz0 : 0 < z
      · have he := Lib.hid (show endP L2 = endP L + z by rw [hst.out, hen.out, if_pos hz0])
        have hL2 := Lib.hid (show L2 = L ++ [⟨f + k, endP L, z⟩] by rw [hst.out]; unfold addP; rw [if_pos hz0])
        clear hst hen
        go_wp2_with fail
        refine (plend_any B q e L _ hown.pls h0 (by omega)).mono ?_
        rintro x w2 ⟨rfl, hb2⟩
        replace hown : OwnPl w2 base B q e L := rowK_below hown hb2
        replace hz := hz.below hb2
        replace hB := hB.trans (hb2.mono (by omega))
        have hsz := hB.size
        generalize hE : endP L = E at *
        clear hE hck
        go_wp2_with (at_builtin; go_loud (refine wpList_appK rfl (.tmp 18) (.tmp 26) 23 rfl base 32 _ 3 24 Try.underlying23 info_pl rfl (by omega) B q e _ rfl (rowK_alloc hown _) _ 1 1 (plC ⟨f + k, E, z⟩) rfl rfl (new1 _ ⟨f + k, E, z⟩ _) (plC_one1 _) (by simp only [maxLen]; omega) (by omega) (by simp; omega) ?_; intro A9 c9 w9 hown9 hgrow hat))
        have hgo : OwnPl w9 base A9 (q + 1) c9 L2 := by
          unfold OwnPl
          rw [hL2.out, List.flatMap_append, List.flatMap_cons, List.flatMap_nil, List.append_nil]
          exact hown9
        have hBg : Below base w w9 := (hB.alloc (by omega) (.cells #[.int .i64 (f + k), .int .i64 E, .int .i64 z] 32)).grown hgrow (by simp; omega) (fun q hq => rowV_ge hown q hq)
        have hzg : Sl w9 (some ⟨b, o, none⟩) m d (zs.map (Value.int .i64)) := Sl.grown (hz.alloc (.cells #[.int .i64 (f + k), .int .i64 E, .int .i64 z] 32)) hgrow hfar
        have hfg : 0 < m → rowOf (some ⟨b, o, none⟩) ≠ rowOf A9 := fun hm0 => by
          rcases hat with h | h
          · rw [h]; exact hfar hm0
          · rw [h]
            intro e
            injection e with e
            have hlt2 : b < w2.heap.size := by have := hb2.size; omega
            simp at e
            omega
        go_roundw
        case rel =>
          exact ⟨k + 1, q + 1, A9, c9, by omega, by omega, by go_num, rfl, by rw [hG2.out]; exact hgo, hzg, hfg, by rw [hG2.out, he.out]; omega, by rw [hG2.out, he.out]; omega, hBg⟩
        case measure => simp [intOf]; omega
      · have he := Lib.hid (show endP L2 = endP L by rw [hst.out, hen.out, if_neg hz0]; omega)
        have hL2 := Lib.hid (show L2 = L by rw [hst.out]; unfold addP; rw [if_neg hz0])
        clear hst hen
        go_wp2_with fail
        go_roundw
        case rel =>
          rw [← hL2.out] at hown h0 h1
          exact ⟨k + 1, q, B, e, by omega, by omega, by go_num, rfl, by rw [hG2.out]; exact hown, hz, hfar, by rw [hG2.out]; exact h0, by rw [hG2.out]; omega, hB⟩
        case measure => simp [intOf]; omega
    · obtain rfl : k = m := by omega
      rw [List.take_of_length_le (by omega)] at hown
      have hkn2 : ¬ (k : Int) < k := by omega
      clear h0 h1
      go_wp2_with fail
      rw [← HQ.out]
      exact ⟨B, q, e, rfl, hq, hown, hB⟩

end Go.Proofs.Ytogjkkhboaflcaa
