/-
  A train parted, step by step; lists of bytes that a call owns; and what the document's own answers for layer 11 come to: Open, Split.
-/
import Derived.Test.YtkfinkmbdpdepaaTrainO
import Derived.Test.YtkfinkmbdpdepaaTrainL
import Derived.Test.YtkfinkmbdpdepaaBase
namespace Go.Proofs.Ytkfinkmbdpdepaa
open Go.RowKit
set_option linter.unusedVariables false
set_option linter.unusedSimpArgs false

/-! ## Plain -/
def openC (s : List UInt8) : Cm := if openE s = 0 then readCm s else zeroCm
def openD (s : List UInt8) : List UInt8 := if openE s = 0 then openB s else []
def openN (s : List UInt8) : Nat := if openE s = 0 then openP s else 0
theorem car_take {t : List UInt8} (h : cmE t = 0) : cmE (t.take (cmN t)) = 0 ∧ readCm (t.take (cmN t)) = readCm t ∧ (readCm t).size = cmN t ∧ 4 ≤ cmN t ∧ cmN t ≤ t.length ∧ (t.take (cmN t)).length = cmN t := by
  obtain ⟨k1, k2, k3, k4⟩ := cmE_zero h
  have h4 := cmN_pos t
  have hn : ∀ q, 4 ≤ q → cmN (t.take q) = cmN t := fun q hq => by unfold cmN; rw [bt_take (by omega), bt_take (by omega)]
  have hl : (t.take (cmN t)).length = cmN t := by rw [List.length_take]; omega
  have hr : readCm t = cmV t := if_pos h
  have e0 : ∀ q, 4 ≤ q → (t.take q).length = cmN t → cmE (t.take q) = 0 := fun q hq hlq => by
    unfold cmE
    rw [hn q hq, bt_take (by omega), hlq, if_neg (by omega), if_neg (by omega), if_neg (by omega)]
  have e1 : ∀ q, 4 ≤ q → (t.take q).length = cmN t → readCm (t.take q) = cmV t := fun q hq hlq => by
    unfold readCm
    rw [if_pos (e0 q hq hlq)]
    unfold cmV
    rw [hn q hq, bt_take (by omega), bt_take (by omega)]
  exact ⟨e0 _ h4 hl, by rw [hr]; exact e1 _ h4 hl, by rw [hr]; rfl, h4, k4, hl⟩
/-- How far a train is parted: up to place k, into L. -/
def SplitAt (s : List UInt8) (k : Nat) (L : List (List UInt8)) : Prop :=
  splitF s.length s = if (splitF s.length (s.drop k)).1 ≠ 0 then ((splitF s.length (s.drop k)).1, []) else (0, L ++ (splitF s.length (s.drop k)).2)
theorem SplitAt.start (s : List UInt8) : SplitAt s 0 [] := by
  unfold SplitAt
  rw [List.drop_zero]
  split
  · rename_i h
    have := splitF_err _ _ h
    exact Prod.ext rfl this
  · rename_i h
    exact Prod.ext (by simpa using h) rfl
theorem SplitAt.done {s : List UInt8} {L : List (List UInt8)} (h : SplitAt s s.length L) : splitF s.length s = (0, L) := by
  unfold SplitAt at h
  rw [h, List.drop_length, splitF_nil, if_neg (by simp), List.append_nil]
theorem SplitAt.step {s t : List UInt8} {k : Nat} {L : List (List UInt8)} (h : SplitAt s k L) (hk : k < s.length) (ht : s.drop k = t) :
    (cmE t ≠ 0 → splitF s.length s = (cmE t, [])) ∧ (cmE t = 0 → (readCm t).pad = true → cmN t < t.length → splitF s.length s = (5, [])) ∧
    (cmE t = 0 → ¬ ((readCm t).pad = true ∧ cmN t < t.length) → (openE (t.take (cmN t)) ≠ 0 → splitF s.length s = (openE (t.take (cmN t)), [])) ∧ (openE (t.take (cmN t)) = 0 → SplitAt s (k + cmN t) (L ++ [t.take (cmN t)]))) := by
  obtain ⟨f, hf⟩ : ∃ f, s.length = f + 1 := ⟨s.length - 1, by omega⟩
  have htl : t.length = s.length - k := by rw [← ht, List.length_drop]
  have hne : t ≠ [] := fun e => by rw [e] at htl; simp at htl; omega
  unfold SplitAt at h
  rw [ht] at h
  refine ⟨fun h1 => ?_, fun h1 h2 h3 => ?_, fun h1 h2 => ⟨fun h3 => ?_, fun h3 => ?_⟩⟩
  · have e : splitF s.length t = (cmE t, []) := by rw [hf, splitF_succ, if_neg hne, if_pos h1]
    rw [h, e, if_pos h1]
  · have e : splitF s.length t = (5, []) := by rw [hf, splitF_succ, if_neg hne, if_neg (by omega), if_pos ⟨h2, h3⟩]
    rw [h, e, if_pos (by simp)]
  · have e : splitF s.length t = (openE (t.take (cmN t)), []) := by rw [hf, splitF_succ, if_neg hne, if_neg (by omega), if_neg h2, if_pos h3]
    rw [h, e, if_pos h3]
  · have h4 := cmN_pos t
    have e0 : t.drop (cmN t) = s.drop (k + cmN t) := by rw [← ht, List.drop_drop]
    have e : splitF s.length t = if (splitF s.length (s.drop (k + cmN t))).1 ≠ 0 then ((splitF s.length (s.drop (k + cmN t))).1, []) else (0, t.take (cmN t) :: (splitF s.length (s.drop (k + cmN t))).2) := by
      have e1 : splitF s.length t = splitF (f + 1) t := by rw [hf]
      rw [e1, splitF_succ, if_neg hne, if_neg (by omega), if_neg h2, if_neg (by omega), e0, splitF_fuel f s.length (s.drop (k + cmN t)) (by rw [List.length_drop]; omega) (by rw [List.length_drop]; omega)]
    unfold SplitAt
    rw [h, e]
    by_cases g : (splitF s.length (s.drop (k + cmN t))).1 ≠ 0
    · rw [if_pos g, if_pos g, if_pos g]
    · rw [if_neg g, if_neg g, if_neg (by simp), List.append_assoc]
      rfl

/-! ## Memory -/
theorem info_bs : (Try.prog.info? 22).map (fun i => (i.zero, i.size, i.bytes)) = some (some (.slice none 0 0), 1, 24) := by kernel_rfl
theorem lpC_one1 (e : Lp) : ∀ u ∈ lpC e, u.oneCell' = true := by
  intro u hu
  simp only [lpC, List.mem_cons, List.not_mem_nil, or_false] at hu
  subst hu
  rfl
theorem newLp (w : World) (e : Lp) (t : TypeId) : ∀ j u, (lpC e)[j]? = some u → (w.alloc (.cells #[.slice e.A e.n e.c] t)).cell? ((⟨w.heap.size, 0, none⟩ : Addr).add j) = some u := by
  intro j u hj
  rw [add_plain', Nat.zero_add, World.cell?_alloc_at _ _ _ _ rfl]
  simpa [lpC] using hj
/-- The slice value is a row of the call's own of lists of bytes, which lie elsewhere. -/
def OwnL (w : World) (base : Nat) (A : Option Addr) (n c : Nat) (es : List Lp) : Prop := w.ownsRow base 22 1 (.slice A n c) n (es.flatMap lpC) ∧ ∀ e ∈ es, Bs w e.A e.n e.c e.s ∧ (0 < e.n → rowOf e.A ≠ rowOf A)
theorem OwnL.bls {w : World} {base n c : Nat} {A : Option Addr} {es : List Lp} (h : OwnL w base A n c es) : Bls w A n c (es.map Lp.s) := ⟨es, rfl, SlK.of_own h.1, fun e he => (h.2 e he).1⟩
theorem OwnL.nil (w : World) (base : Nat) : OwnL w base none 0 0 [] := ⟨rowK_nil w base _ 1, by simp⟩
theorem OwnL.below {w w' : World} {base n c : Nat} {A : Option Addr} {es : List Lp} (h : OwnL w base A n c es) (hb : Below w.heap.size w w') : OwnL w' base A n c es := ⟨rowK_below h.1 hb, fun e he => ⟨(h.2 e he).1.below hb, (h.2 e he).2⟩⟩
theorem OwnL.alloc {w : World} {base n c : Nat} {A : Option Addr} {es : List Lp} (h : OwnL w base A n c es) (o : Obj) : OwnL (w.alloc o) base A n c es := h.below ((Below.refl _ _).alloc (Nat.le_refl _) o)
theorem bs_rowlt {w : World} {n c : Nat} {A : Option Addr} {s : List UInt8} (h : Bs w A n c s) (hn : 0 < n) : ∃ b, rowOf A = some b ∧ b < w.heap.size := by
  obtain ⟨b, o, rfl, hlt, _⟩ := h.at_ hn
  exact ⟨b, rfl, hlt⟩
theorem OwnL.grown {w w' : World} {base n c m d : Nat} {A B : Option Addr} {es : List Lp} {x : Lp} (h : OwnL w base A n c es) (hg : w.grownBy w' (rowOf A)) (hat : rowOf B = rowOf A ∨ rowOf B = some w.heap.size) (hr : w'.ownsRow base 22 1 (.slice B m d) m (es.flatMap lpC ++ lpC x)) (hx : Bs w x.A x.n x.c x.s) (hxA : 0 < x.n → rowOf x.A ≠ rowOf A) : OwnL w' base B m d (es ++ [x]) := by
  refine ⟨by rw [List.flatMap_append, List.flatMap_cons, List.flatMap_nil, List.append_nil]; exact hr, fun p hp => ?_⟩
  have hp2 : Bs w p.A p.n p.c p.s ∧ (0 < p.n → rowOf p.A ≠ rowOf A) := by
    rw [List.mem_append, List.mem_singleton] at hp
    rcases hp with hp | rfl
    · exact h.2 p hp
    · exact ⟨hx, hxA⟩
  refine ⟨hp2.1.grown hg hp2.2, fun hn => ?_⟩
  rcases hat with e | e
  · rw [e]; exact hp2.2 hn
  · rw [e]
    obtain ⟨b, e1, e2⟩ := bs_rowlt hp2.1 hn
    rw [e1]
    intro e3
    injection e3 with e3
    omega
/-- What a call hands back: lists of bytes, and the number of an error. -/
def GivesLs (w : World) (l : List (List UInt8)) (err : Nat) (x : Ending) (w' : World) : Prop :=
  ∃ A m c, x = .returned (.tuple #[.slice A m c, .int .i64 err]) ∧ Bls w' A m c l ∧ Below w.heap.size w w'

/-! ## Open -/
theorem ropen_any (A : Option Addr) (n c : Nat) (s : List UInt8) (w : World) (hs : Bs w A n c s) (hn : n ≤ 1000000) :
    Calls Try.prog 8 #[.slice A n c] w (GivesCar w (openC s) (openD s) (openN s) (openE s)) := by
  have hl := hs.len
  by_cases h1 : cmE s = 0
  · by_cases h2 : (readCm s).size = n
    · have e2 : ¬ (readCm s).size ≠ s.length := by rw [hl]; omega
      have hE : openE s = if (readCm s).pad = true ∧ (trailN (s.drop 4) = 0 ∨ trailN (s.drop 4) % 4 ≠ 0) then 5 else 0 := by unfold openE; rw [if_neg (by omega), if_neg e2]
      cases hp : (readCm s).pad
      · have e0 : openE s = 0 := by rw [hE, if_neg (by simp [hp])]
        have eP : openP s = 0 := by unfold openP; rw [if_neg (by simp [hp])]
        have eC : openC s = ⟨false, (readCm s).count, (readCm s).typ, n⟩ := by unfold openC; rw [if_pos e0, Cm.eq_iff]; exact ⟨hp, rfl, rfl, h2⟩
        have eD : openD s = (s.drop 4).take (n - 4) := by unfold openD openB; rw [if_pos e0, eP, hl, Nat.sub_zero]
        have eN : openN s = 0 := by unfold openN; rw [if_pos e0, eP]
        rw [eC, eD, eN, e0]
        exact ropen_ok0 A n c s w hs hn h1 h2 hp
      · by_cases h5 : trailN (s.drop 4) = 0
        · have e0 : openE s = 5 := by rw [hE, if_pos ⟨hp, .inl h5⟩]
          unfold openC openD openN
          rw [if_neg (by omega), if_neg (by omega), if_neg (by omega), e0]
          exact ropen_e5a A n c s w hs h1 h2 hp h5
        · by_cases h6 : trailN (s.drop 4) % 4 = 0
          · have e0 : openE s = 0 := by rw [hE, if_neg (by rintro ⟨_, h | h⟩ <;> omega)]
            have eP : openP s = trailN (s.drop 4) := by unfold openP; rw [if_pos hp]
            have eC : openC s = ⟨true, (readCm s).count, (readCm s).typ, n⟩ := by unfold openC; rw [if_pos e0, Cm.eq_iff]; exact ⟨hp, rfl, rfl, h2⟩
            have eD : openD s = (s.drop 4).take ((n - trailN (s.drop 4)) - 4) := by unfold openD openB; rw [if_pos e0, eP, hl]
            have eN : openN s = trailN (s.drop 4) := by unfold openN; rw [if_pos e0, eP]
            rw [eC, eD, eN, e0]
            exact ropen_ok1 A n c s w hs hn h1 h2 hp h5 h6
          · have e0 : openE s = 5 := by rw [hE, if_pos ⟨hp, .inr h6⟩]
            unfold openC openD openN
            rw [if_neg (by omega), if_neg (by omega), if_neg (by omega), e0]
            exact ropen_e5b A n c s w hs h1 h2 hp h6
    · have e0 : openE s = 4 := by unfold openE; rw [if_neg (by omega), if_pos (by rw [hl]; exact h2)]
      unfold openC openD openN
      rw [if_neg (by omega), if_neg (by omega), if_neg (by omega), e0]
      exact ropen_e4 A n c s w hs h1 h2
  · have e0 : openE s = cmE s := by unfold openE; rw [if_pos h1]
    unfold openC openD openN
    rw [if_neg (by omega), if_neg (by omega), if_neg (by omega), e0]
    exact ropen_e1 A n c s w hs h1

end Go.Proofs.Ytkfinkmbdpdepaa
