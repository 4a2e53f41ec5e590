/-
  Elements as plain data: bytes 0 between elements alter nothing of what is read; nor does what stands behind an end of the narrower form; but it isn't canonical.
-/
import Derived.Test.YtpkbikimpjmkgaaElemN
namespace Go.Proofs.Ytpkbikimpjmkgaa
set_option linter.unusedSimpArgs false
set_option linter.unusedVariables false

/-- The elements, so many bytes 0 ahead of each. -/
def padB (nw : Bool) : List El → List Nat → List UInt8
  | [], _ => []
  | e :: l, zs => List.replicate (zs.headD 0) 0 ++ (elB nw e ++ padB nw l zs.tail)
theorem padB_cons (nw : Bool) (e : El) (l : List El) (zs : List Nat) : padB nw (e :: l) zs = List.replicate (zs.headD 0) 0 ++ (elB nw e ++ padB nw l zs.tail) := rfl
def spsPad (nw : Bool) : Nat → List El → List Nat → List Sp
  | _, [], _ => []
  | a, e :: l, zs => elSp nw (a + zs.headD 0) e :: spsPad nw (a + zs.headD 0 + (elB nw e).length) l zs.tail
theorem spotsG_pad {nw : Bool} : ∀ (l : List El) (zs : List Nat) (f a : Nat) (r : List UInt8) (out : List Sp), (∀ e ∈ l, okEl e = true ∧ (nw = true → narrowE e = true)) → l.Pairwise (fun a b => a.id ≠ b.id) → (∀ e ∈ l, ∀ s ∈ out, s.id ≠ e.id.toNat) → (padB nw l zs).length + r.length ≤ f →
    spotsG nw f a (padB nw l zs ++ r) out = spotsG nw (f - (padB nw l zs).length) (a + (padB nw l zs).length) r (out ++ spsPad nw a l zs) := by
  intro l
  induction l with
  | nil => intro zs f a r out _ _ _ _; simp [padB, spsPad]
  | cons e l ih =>
    intro zs f a r out ho hp hd hf
    have hpl : (padB nw (e :: l) zs).length = zs.headD 0 + (elB nw e).length + (padB nw l zs.tail).length := by
      rw [padB_cons, List.length_append, List.length_append, List.length_replicate]
      omega
    rw [hpl] at hf
    have h0 := ho e (by simp)
    have hany : out.any (fun s => s.id == e.id.toNat) = false := by
      rw [List.any_eq_false]
      intro s hs
      have := hd e (by simp) s hs
      simpa using this
    have hid : ∀ x : El, okEl x = true → ((x.id.toNat : Nat) : Int) = x.id := fun x hx => by
      rw [okEl_iff] at hx; omega
    have e1 : padB nw (e :: l) zs ++ r = List.replicate (zs.headD 0) 0 ++ (elB nw e ++ (padB nw l zs.tail ++ r)) := by rw [padB_cons]; simp only [List.append_assoc]
    rw [e1, spotsG_zeros _ _ _ _ _ _ (by simp only [List.length_append]; omega), spotsG_el h0.1 h0.2 _ _ _ out (by rw [List.length_append]; omega) hany,
      ih zs.tail _ _ _ _ (fun x hx => ho x (by simp [hx])) (List.pairwise_cons.1 hp).2 ?_ (by omega), hpl]
    · rw [show f - zs.headD 0 - (elB nw e).length - (padB nw l zs.tail).length = f - (zs.headD 0 + (elB nw e).length + (padB nw l zs.tail).length) by omega,
        show a + zs.headD 0 + (elB nw e).length + (padB nw l zs.tail).length = a + (zs.headD 0 + (elB nw e).length + (padB nw l zs.tail).length) by omega]
      rw [List.append_assoc]
      rfl
    · intro x hx s hs
      rw [List.mem_append, List.mem_singleton] at hs
      rcases hs with hs | rfl
      · exact hd x (by simp [hx]) s hs
      · have h1 := (List.pairwise_cons.1 hp).1 x hx
        intro e1
        have e2 : e.id.toNat = x.id.toNat := e1
        apply h1
        rw [← hid e h0.1, ← hid x (ho x (by simp [hx])).1, e2]
theorem elOf_pad {nw : Bool} (s : List UInt8) : ∀ (l : List El) (zs : List Nat) (A r : List UInt8), (∀ e ∈ l, 0 ≤ e.id) → s = A ++ (padB nw l zs ++ r) → (spsPad nw A.length l zs).map (elOf s) = l := by
  intro l
  induction l with
  | nil => intro zs A r _ _; rfl
  | cons e l ih =>
    intro zs A r h0 hs
    unfold spsPad
    rw [List.map_cons]
    have h1 := ih zs.tail (A ++ List.replicate (zs.headD 0) 0 ++ elB nw e) r (fun x hx => h0 x (by simp [hx])) (by rw [hs, padB_cons]; simp only [List.append_assoc])
    rw [List.length_append, List.length_append, List.length_replicate] at h1
    rw [h1]
    congr 1
    rw [El.eq_iff]
    refine ⟨?_, ?_⟩
    · show ((e.id.toNat : Nat) : Int) = e.id
      have := h0 e (by simp); omega
    · show (s.drop (A.length + zs.headD 0 + (if nw = true then 1 else 2))).take e.data.length = e.data
      have hd : elB nw e = (elB nw e).take (if nw = true then 1 else 2) ++ e.data := by
        unfold elB
        cases nw <;> simp
      have hl := elB_length nw e
      have hs2 : s = (A ++ List.replicate (zs.headD 0) 0) ++ (elB nw e ++ (padB nw l zs.tail ++ r)) := by rw [hs, padB_cons]; simp only [List.append_assoc]
      have hAl : (A ++ List.replicate (zs.headD 0) (0 : UInt8)).length = A.length + zs.headD 0 := by simp
      rw [hs2, ← List.drop_drop, List.drop_left' hAl, hd]
      simp only [List.append_assoc]
      rw [List.drop_left' (by rw [List.length_take, hl]; omega), List.take_left' rfl]
theorem spotsG_end (f a : Nat) (x : UInt8) (r : List UInt8) (out : List Sp) (h : x.toNat / 16 = 15) : spotsG true (f + 1) a (x :: r) out = (0, out) := by
  rw [spotsG_cons, if_neg (by omega), if_pos rfl, if_pos (.inr h)]
/-- What is behind the last element: bytes 0, and of the narrower form an end and more. -/
theorem pads_read {nw : Bool} {l : List El} {zs : List Nat} {k p : Nat} {T : List UInt8} (hr : rightL l = true) (hn : nw = true → narrowL l = true) (hp : isProf p = true) (hpn : isNarrow p = nw) (hT : T = [] ∨ nw = true ∧ ∃ x r, T = x :: r ∧ x.toNat / 16 = 15) :
    spotsE p (padB nw l zs ++ (List.replicate k 0 ++ T)) = 0 ∧ readL p (padB nw l zs ++ (List.replicate k 0 ++ T)) = l := by
  obtain ⟨r1, r2⟩ := (rightL_iff l).1 hr
  have hne : ∀ e ∈ l, okEl e = true ∧ (nw = true → narrowE e = true) := fun e he => ⟨r1 e he, fun h => by have := hn h; unfold narrowL at this; rw [List.all_eq_true] at this; exact this e he⟩
  obtain ⟨s, hs⟩ : ∃ s, s = padB nw l zs ++ (List.replicate k 0 ++ T) := ⟨_, rfl⟩
  rw [← hs]
  have hl : s.length = (padB nw l zs).length + (k + T.length) := by rw [hs, List.length_append, List.length_append, List.length_replicate]
  have hG : spotsG nw s.length 0 s [] = (0, spsPad nw 0 l zs) := by
    conv => lhs; arg 4; rw [hs]
    rw [spotsG_pad l zs _ 0 _ [] hne r2 (by simp) (by rw [List.length_append, List.length_replicate, hl]; omega),
      spotsG_zeros nw k _ _ T _ (by rw [hl]; omega)]
    rcases hT with rfl | ⟨rfl, x, r, rfl, hx⟩
    · rw [spotsG_nil]; simp
    · obtain ⟨f, hf⟩ : ∃ f, s.length - (padB true l zs).length - k = f + 1 := ⟨r.length, by rw [hl, List.length_cons]; omega⟩
      rw [hf, spotsG_end _ _ _ _ _ hx]; simp
  have e1 : spotsE p s = 0 := by unfold spotsE; rw [if_pos hp, hpn, hG]
  have e2 : spotsL p s = spsPad nw 0 l zs := by unfold spotsL; rw [if_pos hp, hpn, hG]
  refine ⟨e1, ?_⟩
  unfold readL
  rw [e2]
  exact elOf_pad s l zs [] (List.replicate k 0 ++ T) (fun e he => by have := (okEl_iff e).1 (r1 e he); omega) hs
theorem elB_head {nw : Bool} {e : El} (h : okEl e = true) (hn : nw = true → narrowE e = true) : ∃ x r, elB nw e = x :: r ∧ x ≠ 0 := by
  rw [okEl_iff] at h
  unfold elB
  have hz : ∀ v : Nat, v < 256 → v ≠ 0 → UInt8.ofNat v ≠ 0 := fun v hv h0 e => h0 (by rw [← toNat_ofNat hv, e]; rfl)
  cases nw
  · exact ⟨_, _, rfl, hz _ (by omega) (by omega)⟩
  · have := (narrowE_iff e).1 (hn rfl)
    exact ⟨_, _, rfl, hz _ (by omega) (by omega)⟩
/-- With an end behind, it isn't what is written. -/
theorem pads_other {nw : Bool} : ∀ (l : List El) (zs : List Nat) (m k : Nat) (x : UInt8) (r : List UInt8), (∀ e ∈ l, okEl e = true ∧ (nw = true → narrowE e = true)) → x ≠ 0 → l.flatMap (elB nw) ++ List.replicate m 0 ≠ padB nw l zs ++ (List.replicate k 0 ++ (x :: r)) := by
  intro l
  induction l with
  | nil =>
    intro zs m k x r _ hx e
    have hm : x ∈ List.replicate m (0 : UInt8) := by
      have : x ∈ padB nw [] zs ++ (List.replicate k 0 ++ (x :: r)) := by simp [padB]
      rw [← e] at this
      simpa using this
    rw [List.mem_replicate] at hm
    exact hx hm.2
  | cons e l ih =>
    intro zs m k x r ho hx heq
    obtain ⟨y, t, hy, hy0⟩ := elB_head (ho e (by simp)).1 (ho e (by simp)).2
    rw [List.flatMap_cons, padB_cons] at heq
    rcases Nat.eq_zero_or_pos (zs.headD 0) with h0 | h0
    · rw [h0, List.replicate_zero, List.nil_append, List.append_assoc, List.append_assoc] at heq
      exact ih zs.tail m k x r (fun z hz => ho z (by simp [hz])) hx (List.append_cancel_left heq)
    · obtain ⟨c, hc⟩ : ∃ c, zs.headD 0 = c + 1 := ⟨zs.headD 0 - 1, by omega⟩
      rw [hc, List.replicate_succ, hy] at heq
      simp only [List.cons_append, List.append_assoc, List.cons.injEq] at heq
      exact hy0 heq.1

end Go.Proofs.Ytpkbikimpjmkgaa
