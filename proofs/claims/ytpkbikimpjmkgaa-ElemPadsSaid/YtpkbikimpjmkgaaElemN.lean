/-
  Elements as plain data: a list that is right is read from what is written of it as it was; what is read is right.
-/
import Derived.Test.YtpkbikimpjmkgaaElemM
namespace Go.Proofs.Ytpkbikimpjmkgaa
set_option linter.unusedSimpArgs false
set_option linter.unusedVariables false

theorem nodupE_iff (l : List El) : nodupE l = true ↔ l.Pairwise (fun a b => a.id ≠ b.id) := by
  induction l with
  | nil => simp [nodupE]
  | cons e l ih =>
    unfold nodupE
    rw [Bool.and_eq_true, ih, List.pairwise_cons, List.all_eq_true]
    refine and_congr_left fun _ => ?_
    constructor
    · intro h x hx; have := h x hx; rw [bne_iff_ne] at this; exact fun e => this e.symm
    · intro h x hx; rw [bne_iff_ne]; exact fun e => h x hx e.symm
theorem rightL_iff (l : List El) : rightL l = true ↔ (∀ e ∈ l, okEl e = true) ∧ l.Pairwise (fun a b => a.id ≠ b.id) := by
  unfold rightL
  rw [Bool.and_eq_true, List.all_eq_true, nodupE_iff]
theorem okEl_iff (e : El) : okEl e = true ↔ 1 ≤ e.id ∧ e.id ≤ 255 ∧ e.data.length ≤ 255 := by unfold okEl; rw [decide_eq_true_eq]
theorem narrowE_iff (e : El) : narrowE e = true ↔ e.id ≤ 14 ∧ 1 ≤ e.data.length ∧ e.data.length ≤ 16 := by unfold narrowE; rw [decide_eq_true_eq]

def spsOf (nw : Bool) : Nat → List El → List Sp
  | _, [] => []
  | a, e :: l => elSp nw a e :: spsOf nw (a + (elB nw e).length) l
theorem spotsG_els {nw : Bool} : ∀ (l : List El) (f a : Nat) (r : List UInt8) (out : List Sp), (∀ e ∈ l, okEl e = true ∧ (nw = true → narrowE e = true)) → l.Pairwise (fun a b => a.id ≠ b.id) → (∀ e ∈ l, ∀ s ∈ out, s.id ≠ e.id.toNat) → (l.flatMap (elB nw)).length + r.length ≤ f →
    spotsG nw f a (l.flatMap (elB nw) ++ r) out = spotsG nw (f - (l.flatMap (elB nw)).length) (a + (l.flatMap (elB nw)).length) r (out ++ spsOf nw a l) := by
  intro l
  induction l with
  | nil => intro f a r out _ _ _ _; simp [spsOf]
  | cons e l ih =>
    intro f a r out ho hp hd hf
    rw [List.flatMap_cons, List.length_append] at hf
    have h0 := ho e (by simp)
    have hany : out.any (fun s => s.id == e.id.toNat) = false := by
      rw [List.any_eq_false]
      intro s hs
      have := hd e (by simp) s hs
      simpa using this
    have hid : ∀ x : El, okEl x = true → ((x.id.toNat : Nat) : Int) = x.id := fun x hx => by
      rw [okEl_iff] at hx; omega
    rw [List.flatMap_cons, List.append_assoc, spotsG_el h0.1 h0.2 f a _ out (by rw [List.length_append]; omega) hany,
      ih _ _ _ _ (fun x hx => ho x (by simp [hx])) (List.pairwise_cons.1 hp).2 ?_ (by omega), List.length_append, ← Nat.sub_sub, ← Nat.add_assoc, List.append_assoc]
    · rfl
    · intro x hx s hs
      rw [List.mem_append, List.mem_singleton] at hs
      rcases hs with hs | rfl
      · exact hd x (by simp [hx]) s hs
      · have h1 := (List.pairwise_cons.1 hp).1 x hx
        intro e1
        have e2 : e.id.toNat = x.id.toNat := e1
        apply h1
        rw [← hid e h0.1, ← hid x (ho x (by simp [hx])).1, e2]
theorem elOf_sps {nw : Bool} (s : List UInt8) : ∀ (l : List El) (A r : List UInt8), (∀ e ∈ l, 0 ≤ e.id) → s = A ++ (l.flatMap (elB nw) ++ r) → (spsOf nw A.length l).map (elOf s) = l := by
  intro l
  induction l with
  | nil => intro A r _ _; rfl
  | cons e l ih =>
    intro A r h0 hs
    unfold spsOf
    rw [List.map_cons]
    have h1 := ih (A ++ elB nw e) r (fun x hx => h0 x (by simp [hx])) (by rw [hs, List.flatMap_cons]; simp)
    rw [List.length_append] at h1
    rw [h1]
    congr 1
    rw [El.eq_iff]
    refine ⟨?_, ?_⟩
    · show ((e.id.toNat : Nat) : Int) = e.id
      have := h0 e (by simp); omega
    · show (s.drop (A.length + (if nw = true then 1 else 2))).take e.data.length = e.data
      have hd : elB nw e = (elB nw e).take (if nw = true then 1 else 2) ++ e.data := by
        unfold elB
        cases nw <;> simp
      have hl := elB_length nw e
      rw [hs, List.flatMap_cons, ← List.drop_drop, List.drop_left, hd]
      simp only [List.append_assoc]
      rw [List.drop_left' (by rw [List.length_take, hl]; omega), List.take_left' rfl]
theorem isProf_prof {l : List El} (h : rightL l = true) : isProf (profL l) = true ∧ isNarrow (profL l) = narrowL l := by
  unfold profL isProf isNarrow
  rw [if_pos h]
  cases narrowL l <;> simp
theorem writeL_form (l : List El) : writeL l = l.flatMap (elB (narrowL l)) ++ List.replicate (miss (bodyL l).length) 0 := rfl
/-- Elements that are right are read as they were. -/
theorem read_write {l : List El} (h : rightL l = true) : spotsE (profL l) (writeL l) = 0 ∧ spotsL (profL l) (writeL l) = spsOf (narrowL l) 0 l ∧ readL (profL l) (writeL l) = l := by
  obtain ⟨p1, p2⟩ := isProf_prof h
  obtain ⟨r1, r2⟩ := (rightL_iff l).1 h
  have hn : ∀ e ∈ l, okEl e = true ∧ (narrowL l = true → narrowE e = true) := fun e he => ⟨r1 e he, fun hn => by unfold narrowL at hn; rw [List.all_eq_true] at hn; exact hn e he⟩
  have hs : spotsG (narrowL l) (writeL l).length 0 (writeL l) [] = (0, spsOf (narrowL l) 0 l) := by
    have hl : (writeL l).length = (l.flatMap (elB (narrowL l))).length + miss (bodyL l).length := by rw [writeL_form, List.length_append, List.length_replicate]
    conv => lhs; arg 4; rw [writeL_form]
    rw [spotsG_els l _ 0 _ [] hn r2 (by simp) (by rw [List.length_replicate, hl]; omega)]
    have := spotsG_zeros (narrowL l) (miss (bodyL l).length) ((writeL l).length - (l.flatMap (elB (narrowL l))).length) (0 + (l.flatMap (elB (narrowL l))).length) [] ([] ++ spsOf (narrowL l) 0 l) (by rw [hl]; simp)
    rw [List.append_nil] at this
    rw [this, spotsG_nil]
    simp
  have e1 : spotsE (profL l) (writeL l) = 0 := by unfold spotsE; rw [if_pos p1, p2, hs]
  have e2 : spotsL (profL l) (writeL l) = spsOf (narrowL l) 0 l := by unfold spotsL; rw [if_pos p1, p2, hs]
  refine ⟨e1, e2, ?_⟩
  unfold readL
  rw [e2]
  exact elOf_sps (writeL l) l [] _ (fun e he => by have := (okEl_iff e).1 (r1 e he); omega) (writeL_form l)
theorem canon_write {l : List El} (h : rightL l = true) : canonL (profL l) (writeL l) = true := by
  obtain ⟨h1, _, h2⟩ := read_write h
  unfold canonL
  rw [decide_eq_true_eq, h2]
  exact ⟨h1, rfl, rfl⟩
theorem write_whole (l : List El) : (writeL l).length % 4 = 0 := by unfold writeL; rw [fillB_length]; exact miss_whole _
theorem write_inj {l m : List El} (h : rightL l = true) (k : rightL m = true) : (profL l = profL m ∧ writeL l = writeL m) ↔ l = m := by
  constructor
  · rintro ⟨e1, e2⟩
    rw [← (read_write h).2.2, e1, e2, (read_write k).2.2]
  · rintro rfl; exact ⟨rfl, rfl⟩

def okSp (nw : Bool) (len : Nat) (x : Sp) : Prop := 1 ≤ x.id ∧ x.id ≤ 255 ∧ x.size ≤ 255 ∧ x.at_ + x.size ≤ len ∧ (nw = true → x.id ≤ 14 ∧ 1 ≤ x.size ∧ x.size ≤ 16)
theorem any_false_pw {out : List Sp} {x : Sp} (hp : out.Pairwise (fun a b => a.id ≠ b.id)) (h : ¬ out.any (fun s => s.id == x.id) = true) : (out ++ [x]).Pairwise (fun a b => a.id ≠ b.id) := by
  rw [List.pairwise_append]
  refine ⟨hp, List.pairwise_singleton _ _, fun a ha b hb => ?_⟩
  rw [List.mem_singleton] at hb
  subst hb
  intro e
  apply h
  rw [List.any_eq_true]
  exact ⟨a, ha, by simpa using e⟩
theorem spotsG_ok (nw : Bool) : ∀ (f a : Nat) (r : List UInt8) (out : List Sp) (len : Nat), len = a + r.length → (∀ x ∈ out, okSp nw len x) → out.Pairwise (fun a b => a.id ≠ b.id) →
    ((spotsG nw f a r out).1 = 0 → (∀ x ∈ (spotsG nw f a r out).2, okSp nw len x) ∧ (spotsG nw f a r out).2.Pairwise (fun a b => a.id ≠ b.id)) ∧ ((spotsG nw f a r out).1 ≠ 0 → (spotsG nw f a r out).2 = []) ∧ ((spotsG nw f a r out).1 = 0 ∨ (spotsG nw f a r out).1 = 4 ∨ (spotsG nw f a r out).1 = 6) := by
  intro f
  induction f with
  | zero => intro a r out len hl ho hp; cases r <;> exact ⟨fun _ => ⟨ho, hp⟩, fun h => absurd rfl h, .inl rfl⟩
  | succ f ih =>
    intro a r out len hl ho hp
    cases r with
    | nil => exact ⟨fun _ => ⟨ho, hp⟩, fun h => absurd rfl h, .inl rfl⟩
    | cons x r =>
      have hx := x.toNat_lt
      simp only [Nat.reducePow] at hx
      simp only [List.length_cons] at hl
      rw [spotsG_cons]
      split
      · exact ih _ _ _ len (by omega) ho hp
      · split
        · split
          · exact ⟨fun _ => ⟨ho, hp⟩, fun h => absurd rfl h, .inl rfl⟩
          · split
            · exact ⟨fun h => by simp at h, fun _ => rfl, .inr (.inl rfl)⟩
            · split
              · exact ⟨fun h => by simp at h, fun _ => rfl, .inr (.inr rfl)⟩
              · refine ih _ _ _ len (by rw [List.length_drop]; omega) ?_ (any_false_pw hp (by assumption))
                intro y hy
                rw [List.mem_append, List.mem_singleton] at hy
                rcases hy with hy | rfl
                · exact ho y hy
                · exact ⟨by simp only; omega, by simp only; omega, by simp only; omega, by simp only; omega, fun _ => ⟨by simp only; omega, by simp only; omega, by simp only; omega⟩⟩
        · cases r with
          | nil => exact ⟨fun h => by simp at h, fun _ => rfl, .inr (.inl rfl)⟩
          | cons n r2 =>
            have hn := n.toNat_lt
            simp only [Nat.reducePow] at hn
            simp only [List.length_cons] at hl
            simp only
            split
            · exact ⟨fun h => by simp at h, fun _ => rfl, .inr (.inl rfl)⟩
            · split
              · exact ⟨fun h => by simp at h, fun _ => rfl, .inr (.inr rfl)⟩
              · refine ih _ _ _ len (by rw [List.length_drop]; omega) ?_ (any_false_pw hp (by assumption))
                intro y hy
                rw [List.mem_append, List.mem_singleton] at hy
                rcases hy with hy | rfl
                · exact ho y hy
                · exact ⟨by simp only; omega, by simp only; omega, by simp only; omega, by simp only; omega, fun h => by simp_all⟩
theorem spots_ok (p : Nat) (s : List UInt8) : (spotsE p s = 0 → (∀ x ∈ spotsL p s, okSp (isNarrow p) s.length x) ∧ (spotsL p s).Pairwise (fun a b => a.id ≠ b.id)) ∧ (spotsE p s ≠ 0 → spotsL p s = []) ∧ (spotsE p s = 0 ∨ spotsE p s = 4 ∨ spotsE p s = 6) := by
  unfold spotsE spotsL
  split
  · exact spotsG_ok (isNarrow p) s.length 0 s [] s.length (by omega) (by simp) List.Pairwise.nil
  · exact ⟨fun h => by simp at h, fun _ => rfl, .inr (.inr rfl)⟩
/-- What is read is right. -/
theorem read_right {p : Nat} {s : List UInt8} (h : spotsE p s = 0) : rightL (readL p s) = true := by
  obtain ⟨h1, h2⟩ := (spots_ok p s).1 h
  rw [rightL_iff]
  unfold readL
  refine ⟨fun e he => ?_, ?_⟩
  · rw [List.mem_map] at he
    obtain ⟨x, hx, rfl⟩ := he
    obtain ⟨q1, q2, q3, q4, _⟩ := h1 x hx
    rw [okEl_iff]
    refine ⟨by show (1 : Int) ≤ (x.id : Int); omega, by show (x.id : Int) ≤ 255; omega, ?_⟩
    show ((s.drop x.at_).take x.size).length ≤ 255
    rw [List.length_take]; omega
  · rw [List.pairwise_map]
    refine h2.imp fun {a b} hab e => hab ?_
    have : (a.id : Int) = (b.id : Int) := e
    omega

end Go.Proofs.Ytpkbikimpjmkgaa
