/-
  Control packets one behind the other as plain data: a car opened and closed, a train parted.
-/
import Derived.Test.YtkfinkmbdpdepaaComM
import Derived.Test.YtkfinkmbdpdepaaBase
namespace Go.Proofs.Ytkfinkmbdpdepaa
set_option linter.unusedSimpArgs false
set_option linter.unusedVariables false

def openP (s : List UInt8) : Nat := if (readCm s).pad = true then trailN (s.drop 4) else 0
def openE (s : List UInt8) : Nat :=
  if cmE s ≠ 0 then cmE s
  else if (readCm s).size ≠ s.length then 4
  else if (readCm s).pad = true ∧ (trailN (s.drop 4) = 0 ∨ trailN (s.drop 4) % 4 ≠ 0) then 5
  else 0
def openB (s : List UInt8) : List UInt8 := (s.drop 4).take (s.length - openP s - 4)
def mayT (kind count : Int) (n : Nat) (trail : Int) : Bool := decide (0 ≤ trail ∧ trail ≤ 252 ∧ trail % 4 = 0 ∧ n % 4 = 0) && rightCm ⟨false, count, kind, 4 + n + trail⟩
def cmT (kind count : Int) (n : Nat) (trail : Int) : Cm := ⟨decide (0 < trail), count, kind, 4 + n + trail⟩
def closeB (kind count : Int) (body : List UInt8) (trail : Int) : List UInt8 :=
  if 0 < trail then addB (writeCm (cmT kind count body.length trail) ++ body) trail.toNat else writeCm (cmT kind count body.length trail) ++ body

theorem mayT_iff (kind count : Int) (n : Nat) (trail : Int) : mayT kind count n trail = true ↔ (0 ≤ trail ∧ trail ≤ 252 ∧ trail % 4 = 0 ∧ n % 4 = 0) ∧ rightCm (cmT kind count n trail) = true := by
  unfold mayT
  rw [Bool.and_eq_true, decide_eq_true_eq, rightCm_iff, rightCm_iff]
  exact Iff.rfl
theorem closeB_form (kind count : Int) (body : List UInt8) (trail : Int) : closeB kind count body trail = writeCm (cmT kind count body.length trail) ++ (if 0 < trail then addB body trail.toNat else body) := by
  unfold closeB
  split
  · unfold addB grownB
    simp only [List.append_assoc]
  · rfl
theorem closeB_length {kind count : Int} {body : List UInt8} {trail : Int} (h : 0 ≤ trail) : ((closeB kind count body trail).length : Int) = 4 + body.length + trail := by
  rw [closeB_form, List.length_append, writeCm_length]
  split
  · rw [addB_length _ (by omega)]; omega
  · omega
theorem open_close {kind count : Int} {body : List UInt8} {trail : Int} (h : mayT kind count body.length trail = true) :
    openE (closeB kind count body trail) = 0 ∧ cmE (closeB kind count body trail) = 0 ∧ readCm (closeB kind count body trail) = cmT kind count body.length trail ∧ openB (closeB kind count body trail) = body ∧ (openP (closeB kind count body trail) : Int) = trail := by
  obtain ⟨⟨h1, h2, h3, h4⟩, hr⟩ := (mayT_iff _ _ _ _).1 h
  have hl := closeB_length (kind := kind) (count := count) (body := body) h1
  have hf := closeB_form kind count body trail
  have hd : (closeB kind count body trail).drop 4 = if 0 < trail then addB body trail.toNat else body := by rw [hf]; exact List.drop_left' (writeCm_length _)
  have htl : ((if 0 < trail then addB body trail.toNat else body).length : Int) = body.length + trail := by
    split
    · rw [addB_length _ (by omega)]; omega
    · omega
  have hc := (cm_read hr (if 0 < trail then addB body trail.toNat else body)).1 (by show 4 + (body.length : Int) + trail ≤ _; omega)
  rw [← hf] at hc
  have hp : (openP (closeB kind count body trail) : Int) = trail := by
    unfold openP
    rw [hc.2, hd]
    show ((if decide (0 < trail) = true then _ else 0 : Nat) : Int) = trail
    by_cases ht : 0 < trail
    · rw [if_pos (decide_eq_true ht), if_pos ht, addB_trail _ (by omega) (by omega)]; omega
    · rw [if_neg (by simpa using ht)]; omega
  refine ⟨?_, hc.1, hc.2, ?_, hp⟩
  · unfold openE
    rw [if_neg (by omega), hc.2, if_neg (by rw [hl]; show ¬ (4 + (body.length : Int) + trail ≠ _); omega), if_neg]
    rintro ⟨hpad, hbad⟩
    have ht : 0 < trail := of_decide_eq_true hpad
    rw [hd, if_pos ht, addB_trail _ (by omega) (by omega)] at hbad
    omega
  · unfold openB
    rw [hd, show (closeB kind count body trail).length - openP (closeB kind count body trail) - 4 = body.length by omega]
    split
    · exact addB_take _ _
    · exact List.take_of_length_le (by omega)
theorem openE_zero {s : List UInt8} (h : openE s = 0) : cmE s = 0 ∧ (readCm s).size = s.length ∧ ((readCm s).pad = true → trailN (s.drop 4) ≠ 0 ∧ trailN (s.drop 4) % 4 = 0) := by
  unfold openE at h
  split at h
  · omega
  · split at h
    · cases h
    · split at h
      · cases h
      · rename_i a b c
        refine ⟨by omega, by omega, fun hp => ?_⟩
        have : ¬ (trailN (s.drop 4) = 0 ∨ trailN (s.drop 4) % 4 ≠ 0) := fun e => c ⟨hp, e⟩
        omega
theorem openP_le {s : List UInt8} (h : openE s = 0) : openP s + 4 ≤ s.length ∧ openP s ≤ 252 ∧ openP s % 4 = 0 ∧ ((readCm s).pad = true ↔ 0 < openP s) := by
  obtain ⟨h1, h2, h3⟩ := openE_zero h
  have h4 := (cmE_zero h1).1
  have h5 := trailN_le (s.drop 4)
  rw [List.length_drop] at h5
  have h6 := trailN_lt (s.drop 4)
  unfold openP
  split
  · rename_i hp
    have := h3 hp
    exact ⟨by omega, by omega, by omega, by simp [hp]; omega⟩
  · rename_i hp
    exact ⟨by omega, by omega, by omega, by simp [hp]⟩
theorem close_open {s : List UInt8} (h : openE s = 0) : mayT (readCm s).typ (readCm s).count (openB s).length (openP s) = true ∧ cmT (readCm s).typ (readCm s).count (openB s).length (openP s) = readCm s ∧ (openB s).length = s.length - openP s - 4 := by
  obtain ⟨h1, h2, h3⟩ := openE_zero h
  obtain ⟨p1, p2, p3, p4⟩ := openP_le h
  have hr := (cm_right h1).1
  obtain ⟨b1, b2, b3, b4, b5, b6, b7⟩ := (rightCm_iff _).1 hr
  have hl : (openB s).length = s.length - openP s - 4 := by
    unfold openB
    rw [List.length_take, List.length_drop]
    omega
  refine ⟨?_, ?_, hl⟩
  · rw [mayT_iff]
    refine ⟨by omega, ?_⟩
    rw [rightCm_iff]
    show 0 ≤ (readCm s).count ∧ (readCm s).count < 32 ∧ 0 ≤ (readCm s).typ ∧ (readCm s).typ < 256 ∧ 4 ≤ 4 + ((openB s).length : Int) + (openP s : Int) ∧ 4 + ((openB s).length : Int) + (openP s : Int) ≤ 262144 ∧ (4 + ((openB s).length : Int) + (openP s : Int)) % 4 = 0
    omega
  · rw [Cm.eq_iff]
    refine ⟨?_, rfl, rfl, ?_⟩
    · show decide (0 < (openP s : Int)) = (readCm s).pad
      cases hp : (readCm s).pad
      · have : ¬ 0 < openP s := fun e => by have := p4.2 e; rw [hp] at this; cases this
        exact decide_eq_false (by omega)
      · have := p4.1 hp
        exact decide_eq_true (by omega)
    · show 4 + ((openB s).length : Int) + (openP s : Int) = (readCm s).size
      omega
theorem zero_iff (l : List UInt8) : zeroB l = true ↔ l = List.replicate l.length 0 := by
  unfold zeroB
  rw [List.all_eq_true, List.eq_replicate_iff]
  constructor
  · intro h
    refine ⟨rfl, fun x hx => ?_⟩
    have := h x hx
    rw [beq_iff_eq] at this
    exact UInt8.toNat.inj this
  · rintro ⟨_, h⟩ x hx
    rw [h x hx]
    rfl
/-- Closed again it is as it was, if its trailer was clean. -/
theorem close_clean {s : List UInt8} (h : openE s = 0) : closeB (readCm s).typ (readCm s).count (openB s) (openP s) = s ↔ zeroB ((s.drop (s.length - openP s)).take (openP s - 1)) = true := by
  obtain ⟨h1, h2, h3⟩ := openE_zero h
  obtain ⟨p1, p2, p3, p4⟩ := openP_le h
  obtain ⟨m1, m2, m3⟩ := close_open h
  have hw := (cm_right h1).2.2
  have hs : s = s.take 4 ++ (openB s ++ s.drop (s.length - openP s)) := by
    have e1 : openB s ++ s.drop (s.length - openP s) = s.drop 4 := by
      unfold openB
      have : s.drop (s.length - openP s) = (s.drop 4).drop (s.length - openP s - 4) := by rw [List.drop_drop]; congr 1; omega
      rw [this, List.take_append_drop]
    rw [e1, List.take_append_drop]
  rw [closeB_form, m2, hw]
  by_cases hn : openP s = 0
  · rw [hn, if_neg (by omega)]
    rw [hn] at hs
    have hd : s.drop (s.length - 0) = [] := List.drop_of_length_le (by omega)
    rw [hd, List.append_nil] at hs
    rw [hd]
    exact ⟨fun _ => rfl, fun _ => hs.symm⟩
  · rw [if_pos (by omega), Int.toNat_natCast]
    have hpad : (readCm s).pad = true := p4.2 (by omega)
    have hP : openP s = trailN (s.drop 4) := by unfold openP; rw [if_pos hpad]
    have hlast : (s.getD (s.length - 1) 0).toNat = openP s := by
      rw [hP]
      have h0 := (h3 hpad).1
      unfold trailN at h0 ⊢
      rw [List.length_drop] at h0 ⊢
      have hg : (s.drop 4).getD (s.length - 4 - 1) 0 = s.getD (s.length - 1) 0 := by
        rw [List.getD_eq_getElem?_getD, List.getD_eq_getElem?_getD, List.getElem?_drop, show 4 + (s.length - 4 - 1) = s.length - 1 by omega]
      rw [hg] at h0 ⊢
      split at h0
      · rename_i c; rw [if_pos c]
      · exact absurd rfl h0
    obtain ⟨T, hT⟩ : ∃ T, s.drop (s.length - openP s) = T := ⟨_, rfl⟩
    have hTl : T.length = openP s := by rw [← hT, List.length_drop]; omega
    have hTe : T = T.take (openP s - 1) ++ [UInt8.ofNat (openP s)] := by
      have e1 : T.drop (openP s - 1) = [UInt8.ofNat (openP s)] := by
        have hlt : openP s - 1 < T.length := by omega
        rw [List.drop_eq_getElem_cons hlt, List.drop_of_length_le (by omega)]
        congr 1
        have e2 : T[openP s - 1]'hlt = s.getD (s.length - 1) 0 := by
          subst hT
          rw [List.getElem_drop, List.getD_eq_getElem?_getD, List.getElem?_eq_getElem (by omega)]
          simp only [Option.getD_some]
          congr 1
          omega
        rw [e2, ← hlast]
        simp
      rw [← e1, List.take_append_drop]
    rw [hT] at hs ⊢
    have ha : addB (openB s) (openP s) = openB s ++ (List.replicate (openP s - 1) 0 ++ [UInt8.ofNat (openP s)]) := by
      unfold addB grownB
      rw [List.append_assoc]
    have htl : (T.take (openP s - 1)).length = openP s - 1 := by rw [List.length_take]; omega
    rw [ha, zero_iff, htl]
    constructor
    · intro e
      rw [← e] at hs
      have := List.append_cancel_left (List.append_cancel_left (e.trans (by rw [← e]; exact hs)))
      rw [hTe] at this
      exact (List.append_cancel_right this).symm
    · intro e
      conv => rhs; rw [hs, hTe, e]

/-- A train, parted. -/
def splitF : Nat → List UInt8 → Nat × List (List UInt8)
  | 0, _ => (0, [])
  | f + 1, s =>
    if s = [] then (0, [])
    else if cmE s ≠ 0 then (cmE s, [])
    else if (readCm s).pad = true ∧ cmN s < s.length then (5, [])
    else if openE (s.take (cmN s)) ≠ 0 then (openE (s.take (cmN s)), [])
    else if (splitF f (s.drop (cmN s))).1 ≠ 0 then ((splitF f (s.drop (cmN s))).1, [])
    else (0, s.take (cmN s) :: (splitF f (s.drop (cmN s))).2)
def splitE (s : List UInt8) : Nat := if s = [] then 2 else (splitF s.length s).1
def splitL (s : List UInt8) : List (List UInt8) := if s = [] then [] else (splitF s.length s).2
theorem splitF_succ (f : Nat) (s : List UInt8) : splitF (f + 1) s =
    if s = [] then (0, [])
    else if cmE s ≠ 0 then (cmE s, [])
    else if (readCm s).pad = true ∧ cmN s < s.length then (5, [])
    else if openE (s.take (cmN s)) ≠ 0 then (openE (s.take (cmN s)), [])
    else if (splitF f (s.drop (cmN s))).1 ≠ 0 then ((splitF f (s.drop (cmN s))).1, [])
    else (0, s.take (cmN s) :: (splitF f (s.drop (cmN s))).2) := rfl
theorem splitF_nil (f : Nat) : splitF f [] = (0, []) := by cases f <;> rfl
theorem cmN_pos (s : List UInt8) : 4 ≤ cmN s := by unfold cmN; omega
theorem splitF_fuel : ∀ (f g : Nat) (s : List UInt8), s.length ≤ f → s.length ≤ g → splitF f s = splitF g s := by
  intro f
  induction f with
  | zero =>
    intro g s hf _
    obtain rfl : s = [] := List.eq_nil_of_length_eq_zero (by omega)
    rw [splitF_nil, splitF_nil]
  | succ f ih =>
    intro g s hf hg
    cases g with
    | zero =>
      obtain rfl : s = [] := List.eq_nil_of_length_eq_zero (by omega)
      rw [splitF_nil, splitF_nil]
    | succ g =>
      have h4 := cmN_pos s
      rw [splitF_succ, splitF_succ]
      by_cases hs : s = []
      · rw [if_pos hs, if_pos hs]
      · have hsl : 0 < s.length := List.length_pos_iff.2 hs
        rw [ih g (s.drop (cmN s)) (by rw [List.length_drop]; omega) (by rw [List.length_drop]; omega)]
theorem splitF_err (f : Nat) (s : List UInt8) (h : (splitF f s).1 ≠ 0) : (splitF f s).2 = [] := by
  cases f with
  | zero => rfl
  | succ f =>
    rw [splitF_succ] at h ⊢
    split at h
    · rename_i a
      rw [if_pos a]
    · rename_i a
      rw [if_neg a]
      split at h
      · rename_i b; rw [if_pos b]
      · rename_i b
        rw [if_neg b]
        split at h
        · rename_i c; rw [if_pos c]
        · rename_i c
          rw [if_neg c]
          split at h
          · rename_i d; rw [if_pos d]
          · rename_i d
            rw [if_neg d]
            split at h
            · rename_i e; rw [if_pos e]
            · exact absurd rfl h
/-- What is parted, joined, is the train; each part can be opened; only the last one has a trailer. -/
theorem splitF_ok : ∀ (f : Nat) (s : List UInt8), s.length ≤ f → (splitF f s).1 = 0 → (splitF f s).2.flatten = s ∧ (∀ c ∈ (splitF f s).2, openE c = 0 ∧ c ≠ []) ∧ ∀ c ∈ (splitF f s).2.dropLast, openP c = 0 := by
  intro f
  induction f with
  | zero =>
    intro s hf _
    obtain rfl : s = [] := List.eq_nil_of_length_eq_zero (by omega)
    simp [splitF]
  | succ f ih =>
    intro s hf h0
    rw [splitF_succ] at h0 ⊢
    by_cases hs : s = []
    · subst hs; simp
    · rw [if_neg hs] at h0 ⊢
      by_cases h1 : cmE s ≠ 0
      · rw [if_pos h1] at h0; exact absurd h0 h1
      · rw [if_neg h1] at h0 ⊢
        by_cases h2 : (readCm s).pad = true ∧ cmN s < s.length
        · rw [if_pos h2] at h0; cases h0
        · rw [if_neg h2] at h0 ⊢
          by_cases h3 : openE (s.take (cmN s)) ≠ 0
          · rw [if_pos h3] at h0; exact absurd h0 h3
          · rw [if_neg h3] at h0 ⊢
            by_cases h4 : (splitF f (s.drop (cmN s))).1 ≠ 0
            · rw [if_pos h4] at h0; exact absurd h0 h4
            · rw [if_neg h4]
              have hsl : 0 < s.length := List.length_pos_iff.2 hs
              have h5 := cmN_pos s
              have hz := (cmE_zero (show cmE s = 0 by omega))
              obtain ⟨i1, i2, i3⟩ := ih (s.drop (cmN s)) (by rw [List.length_drop]; omega) (by omega)
              refine ⟨?_, ?_, ?_⟩
              · show s.take (cmN s) ++ (splitF f (s.drop (cmN s))).2.flatten = s
                rw [i1, List.take_append_drop]
              · intro c hc
                rcases List.mem_cons.1 hc with rfl | hc
                · refine ⟨by omega, fun e => ?_⟩
                  have := congrArg List.length e
                  rw [List.length_take, List.length_nil] at this
                  omega
                · exact i2 c hc
              · intro c hc
                by_cases hr : (splitF f (s.drop (cmN s))).2 = []
                · rw [hr] at hc; simp at hc
                · rw [List.dropLast_cons_of_ne_nil hr] at hc
                  rcases List.mem_cons.1 hc with rfl | hc
                  · have hlt : cmN s < s.length := by
                      rcases Nat.lt_or_ge (cmN s) s.length with h | h
                      · exact h
                      · rw [List.drop_of_length_le h, splitF_nil] at hr; exact absurd rfl hr
                    have hp : ¬ (readCm s).pad = true := fun e => h2 ⟨e, hlt⟩
                    have e1 : readCm (s.take (cmN s)) = cmV (s.take (cmN s)) := if_pos (openE_zero (show openE (s.take (cmN s)) = 0 by omega)).1
                    have e2 : readCm s = cmV s := if_pos (by omega)
                    have hbt : bt (s.take (cmN s)) 0 = bt s 0 := bt_take (by omega)
                    unfold openP
                    rw [if_neg]
                    rw [e1]
                    rw [e2] at hp
                    unfold cmV at hp ⊢
                    rw [hbt]
                    exact hp
                  · exact i3 c hc

theorem car_ahead {c : List UInt8} (h : openE c = 0) (t : List UInt8) : cmE (c ++ t) = 0 ∧ cmN (c ++ t) = c.length ∧ readCm (c ++ t) = readCm c := by
  obtain ⟨h1, h2, _⟩ := openE_zero h
  obtain ⟨k1, k2, k3, k4⟩ := cmE_zero h1
  have b : ∀ i, i < 4 → bt (c ++ t) i = bt c i := fun i hi => bt_append (by omega)
  have hr : readCm c = cmV c := if_pos h1
  have hn : cmN (c ++ t) = cmN c := by unfold cmN; rw [b 2 (by omega), b 3 (by omega)]
  have hs : ((cmN c : Nat) : Int) = c.length := by rw [hr] at h2; exact h2
  have e0 : cmE (c ++ t) = 0 := by
    unfold cmE
    rw [hn, b 0 (by omega), List.length_append, if_neg (by omega), if_neg (by omega), if_neg (by omega)]
  refine ⟨e0, by omega, ?_⟩
  rw [hr]
  unfold readCm
  rw [if_pos e0]
  unfold cmV
  rw [hn, b 0 (by omega), b 1 (by omega)]
theorem splitF_step {c : List UInt8} (h : openE c = 0) (t : List UInt8) (f : Nat) (hp : openP c = 0 ∨ t = []) : splitF (f + 1) (c ++ t) = if (splitF f t).1 ≠ 0 then ((splitF f t).1, []) else (0, c :: (splitF f t).2) := by
  obtain ⟨h1, h2, h3⟩ := car_ahead h t
  have hl := openP_le h
  have hne : c ++ t ≠ [] := fun e => by
    have := congrArg List.length e
    rw [List.length_append, List.length_nil] at this
    omega
  rw [splitF_succ, if_neg hne, if_neg (by omega), h2, h3, if_neg, List.take_left, if_neg (by omega), List.drop_left]
  rintro ⟨e1, e2⟩
  rcases hp with hp | rfl
  · have := hl.2.2.2.1 e1; omega
  · simp at e2
/-- Cars that are joined, of which only the last one has a trailer, are parted as they were. -/
theorem splitF_cars : ∀ (cars : List (List UInt8)) (f : Nat), (∀ c ∈ cars, openE c = 0) → (∀ c ∈ cars.dropLast, openP c = 0) → cars.flatten.length ≤ f → splitF f cars.flatten = (0, cars) := by
  intro cars
  induction cars with
  | nil => intro f _ _ _; exact splitF_nil f
  | cons c cars ih =>
    intro f ho hp hf
    have hc := ho c (by simp)
    have hl := openP_le hc
    rw [List.flatten_cons, List.length_append] at hf
    obtain ⟨f, rfl⟩ : ∃ g, f = g + 1 := ⟨f - 1, by omega⟩
    have hpc : openP c = 0 ∨ cars.flatten = [] := by
      by_cases hr : cars = []
      · right; rw [hr]; rfl
      · left
        rw [List.dropLast_cons_of_ne_nil hr] at hp
        exact hp c (by simp)
    rw [List.flatten_cons, splitF_step hc _ f hpc, ih f (fun x hx => ho x (by simp [hx])) (fun x hx => by
      by_cases hr : cars = []
      · rw [hr] at hx; simp at hx
      · rw [List.dropLast_cons_of_ne_nil hr] at hp
        exact hp x (by simp [hx])) (by omega), if_neg (by simp)]
/-- Cut within a car it is none. -/
theorem splitF_part {c : List UInt8} (h : openE c = 0) (k f : Nat) (h0 : 0 < k) (hk : k < c.length) : (splitF (f + 1) (c.take k)).1 ≠ 0 := by
  obtain ⟨h1, h2, _⟩ := openE_zero h
  obtain ⟨k1, k2, k3, k4⟩ := cmE_zero h1
  have hr : readCm c = cmV c := if_pos h1
  have hs : ((cmN c : Nat) : Int) = c.length := by rw [hr] at h2; exact h2
  have hl : (c.take k).length = k := by rw [List.length_take]; omega
  have he : cmE (c.take k) ≠ 0 := by
    unfold cmE
    rw [hl]
    by_cases q : k < 4
    · rw [if_pos q]; omega
    · have b : ∀ i, i < 4 → bt (c.take k) i = bt c i := fun i hi => bt_take (by omega)
      have hn : cmN (c.take k) = cmN c := by unfold cmN; rw [b 2 (by omega), b 3 (by omega)]
      rw [if_neg q, b 0 (by omega), if_neg (by omega), hn, if_pos (by omega)]
      omega
  rw [splitF_succ, if_neg (fun e => by rw [e] at hl; simp at hl; omega), if_pos he]
  exact he
theorem splitF_cut : ∀ (cars : List (List UInt8)) (k f : Nat), (∀ c ∈ cars, openE c = 0) → (∀ c ∈ cars.dropLast, openP c = 0) → k < cars.flatten.length → k ≤ f → (∀ m, (cars.take m).flatten.length ≠ k) → (splitF f (cars.flatten.take k)).1 ≠ 0 := by
  intro cars
  induction cars with
  | nil => intro k f _ _ hk _ _; simp at hk
  | cons c cars ih =>
    intro k f ho hp hk hf hm
    have hc := ho c (by simp)
    have hk0 : 0 < k := by have := hm 0; simp at this; omega
    obtain ⟨f, rfl⟩ : ∃ g, f = g + 1 := ⟨f - 1, by omega⟩
    have h1 := hm 1
    simp at h1
    rw [List.flatten_cons] at hk ⊢
    rw [List.length_append] at hk
    rcases Nat.lt_or_ge k c.length with h | h
    · rw [List.take_append_of_le_length (by omega)]
      exact splitF_part hc k f hk0 h
    · have hr : cars ≠ [] := fun e => by rw [e] at hk; simp at hk; omega
      rw [List.dropLast_cons_of_ne_nil hr] at hp
      rw [List.take_append, List.take_of_length_le h, splitF_step hc _ f (.inl (hp c (by simp)))]
      have := ih (k - c.length) f (fun x hx => ho x (by simp [hx])) (fun x hx => hp x (by simp [hx])) (by omega) (by have := (cmE_zero (openE_zero hc).1).1; omega) (fun m e => hm (m + 1) (by rw [List.take_succ_cons, List.flatten_cons, List.length_append, e]; omega))
      rw [if_pos this]
      exact this

end Go.Proofs.Ytkfinkmbdpdepaa
