/-
  What the functions of package place come to: has, IndexFunc at it, Owner, Find.
-/
import Derived.Test.YtogjkkhboaflcaaPlaceF
namespace Go.Proofs.Ytogjkkhboaflcaa
open Go.RowKit
set_option linter.unusedVariables false
set_option linter.unusedSimpArgs false

theorem u64w (x : Int) : IntKind.u64.wrap x = x % 18446744073709551616 := by
  have h : IntKind.u64.wrap x = x.emod (2 ^ 64) := rfl
  rw [h]
  rfl
/-- What tells whether the byte at x stands in a place, x lying in block b. -/
abbrev hasF (b : Nat) : Value := .func (.func 29) #[] #[.pointer (some ⟨b, 0, none⟩)]
set_option maxHeartbeats 1000000 in
theorem plhas_any (x : Int) (w : World) :
    Calls Try.prog 19 #[.int .i64 x] w fun e w' => e = .returned (hasF w.heap.size) ∧ w' = w.alloc (.cells #[.int .i64 x] 3) := by
  have hmf : ∀ (fn : Fn) (first cap : Array Value) (w : World), (Instr.makeFunc fn first cap).run Try.prog w = .ok (.func fn first cap) w := fun _ _ _ _ => rfl
  go_enter Try.func19, Try.ntmps19
  go_wp2_with fail
  go_ret
  exact ⟨rfl, rfl⟩
set_option maxHeartbeats 1000000 in
theorem plhas1_any (p : Pl) (x : Int) (b : Nat) (w : World) (hf : fitsPl p) (hx : fitsI x) (hc : w.cell? ⟨b, 0, none⟩ = some (.int .i64 x)) :
    Calls Try.prog 29 #[plV p, .pointer (some ⟨b, 0, none⟩)] w (Says w (.bool (inPl p x))) := by
  obtain ⟨f, a, s⟩ := p
  obtain ⟨f0, f1, f2⟩ := hf
  unfold fitsI at f0 f1 f2 hx
  obtain ⟨r, hr⟩ : ∃ r, inPl ⟨f, a, s⟩ x = r := ⟨_, rfl⟩
  rw [hr]
  have HR := Lib.hid hr
  clear hr
  simp only at f0 f1 f2
  have hlt := World.block_lt_of_cell? _ _ hc
  have hc2 : (w.alloc (.cells #[.int .i64 f, .int .i64 a, .int .i64 s] 32)).cell? ⟨b, 0, none⟩ = some (.int .i64 x) := by rw [World.cell?_alloc_past _ _ _ hlt]; exact hc
  by_cases h1 : a ≤ x
  · by_cases h2 : 0 < s
    · have hs : IntKind.u64.wrap (IntKind.u64.wrap x - IntKind.u64.wrap a) = x - a := by
        rw [u64w, u64w, u64w]
        omega
      have hw : IntKind.u64.wrap s = s := by
        rw [u64w]
        omega
      have hr := Lib.hid (show r = decide (x - a < s) by rw [← HR.out]; unfold inPl; simp [h1])
      go_enter Try.func29, Try.ntmps29
      go_wp2_with fail
      go_ret
      exact ⟨by rw [hr.out]; rfl, below1 _ _⟩
    · have hr := Lib.hid (show r = false by rw [← HR.out]; unfold inPl; simp; omega)
      go_enter Try.func29, Try.ntmps29
      go_wp2_with fail
      go_ret
      exact ⟨by rw [hr.out]; rfl, below1 _ _⟩
  · have hr := Lib.hid (show r = false by rw [← HR.out]; unfold inPl; simp; omega)
    go_enter Try.func29, Try.ntmps29
    go_wp2_with fail
    go_ret
    exact ⟨by rw [hr.out]; rfl, below1 _ _⟩

def findI : List Pl → Int → Int
  | [], _ => -1
  | p :: l, x => if inPl p x = true then 0 else if findI l x < 0 then -1 else findI l x + 1
/-- The first place in which x stands: none of the first k; the kth. -/
theorem owner_none : ∀ (l : List Pl) (x : Int), (∀ p ∈ l, inPl p x = false) → ownerP l x = -1
  | [], _, _ => rfl
  | p :: l, x, h => by
    unfold ownerP
    rw [h p (by simp), if_neg (by simp)]
    exact owner_none l x fun q hq => h q (by simp [hq])
theorem owner_first : ∀ (l : List Pl) (k : Nat) (x : Int) (hk : k < l.length), (∀ p ∈ l.take k, inPl p x = false) → inPl l[k] x = true → ownerP l x = l[k].f
  | p :: l, 0, x, hk, _, h => by
    unfold ownerP
    rw [if_pos (by simpa using h)]
    rfl
  | p :: l, k + 1, x, hk, h0, h => by
    unfold ownerP
    rw [h0 p (by simp), if_neg (by simp)]
    exact owner_first l k x (by simpa using hk) (fun q hq => h0 q (by simp [hq])) (by simpa using h)
/-- What IndexFunc answers: -1, or the first place's number. -/
def IdxF (l : List Pl) (x : Int) (r : Int) : Prop := (r = -1 ∧ ownerP l x = -1 ∧ ∀ p ∈ l, inPl p x = false) ∨ ∃ k : Nat, ∃ hk : k < l.length, r = k ∧ ownerP l x = (l[k]'hk).f
set_option maxHeartbeats 1000000 in
theorem plindex_any (A : Option Addr) (n c : Nat) (l : List Pl) (x : Int) (b : Nat) (w : World) (hl : Pls w A n c l) (hf : ∀ p ∈ l, fitsPl p) (hx : fitsI x) (hc : w.cell? ⟨b, 0, none⟩ = some (.int .i64 x)) :
    Calls Try.prog 18 #[.slice A n c, hasF b] w fun e w' => ∃ r, e = .returned (.int .i64 r) ∧ IdxF l x r ∧ Below w.heap.size w w' := by
  have hln := hl.len
  obtain ⟨hb1, hb2⟩ := hl.bounds
  obtain ⟨Q, hQ⟩ : ∃ Q : Int → Prop, IdxF l x = Q := ⟨_, rfl⟩
  rw [hQ]
  replace hQ := Lib.hid hQ
  have HX := Lib.hid hx
  have hlt := World.block_lt_of_cell? _ _ hc
  go_enter Try.func18, Try.ntmps18
  go_wp2_with fail
  go_loopw [8] (fun i W => ∃ k : Nat, k ≤ n ∧ i = .int .i64 k ∧ (∀ p ∈ l.take k, inPl p x = false) ∧ Below w.heap.size w W) (fun i _ => n - (intOf i).toNat)
  case atStart => exact ⟨0, Nat.zero_le _, rfl, by simp, Below.refl _ _⟩
  case round =>
    obtain ⟨k, hk, rfl, h0, hB⟩ := hrel
    have H0 := Lib.hid h0
    have hcb := (hB.cell (p := ⟨b, 0, none⟩) hlt).trans hc
    clear h0
    by_cases hkn : k < n
    · obtain ⟨b', o, rfl, hlt', hcc⟩ := (hl.below hB).at_ (by omega)
      have hck := hcc k (by omega)
      have hfk := hf _ (List.getElem_mem (show k < l.length by omega))
      have hts := Lib.hid (List.take_succ_eq_append_getElem (l := l) (i := k) (by omega))
      have hfi := Lib.hid (owner_first l k x (by omega))
      have hkn2 : (k : Int) < n := by omega
      clear hcc
      obtain ⟨p, hp⟩ : ∃ p, l[k]'(by omega) = p := ⟨_, rfl⟩
      rw [hp] at hck hfk hts hfi
      have HP := Lib.hid hp
      have HF := Lib.hid hfk
      clear hp hfk
      obtain ⟨v, hv⟩ : ∃ v, inPl p x = v := ⟨_, rfl⟩
      have HV := Lib.hid hv
      go_wp2_with fail
      refine (plhas1_any p x b _ HF.out HX.out hcb).mono ?_
      rintro e w2 ⟨rfl, hb2⟩
      rw [hv]
      clear hv
      replace hB := hB.trans (hb2.mono hB.size)
      cases v
      · go_wp2_with fail
        go_roundw
        case rel =>
          exact ⟨k + 1, by omega, by go_num, by
            rw [hts.out]
            intro q hq
            rw [List.mem_append] at hq
            rcases hq with h | h
            · exact H0.out q h
            · simp at h
              subst h
              exact HV.out, hB⟩
        case measure => simp [intOf]; omega
      · go_wp2_with fail
        go_ret
        refine ⟨_, rfl, ?_, hB⟩
        rw [← hQ.out]
        exact .inr ⟨k, by omega, rfl, by rw [HP.out]; exact hfi.out H0.out HV.out⟩
    · obtain rfl : k = n := by omega
      have hkn2 : ¬ (k : Int) < k := by omega
      go_wp2_with fail
      go_ret
      refine ⟨_, rfl, ?_, hB⟩
      rw [← hQ.out]
      have h0 := H0.out
      rw [List.take_of_length_le (by omega)] at h0
      exact .inl ⟨rfl, owner_none l x h0, h0⟩

set_option maxHeartbeats 1000000 in
theorem plowner_any (A : Option Addr) (n c : Nat) (l : List Pl) (x : Int) (w : World) (hl : Pls w A n c l) (hf : ∀ p ∈ l, fitsPl p) (hx : fitsI x) :
    Calls Try.prog 12 #[.slice A n c, .int .i64 x] w (Says w (.int .i64 (ownerP l x))) := by
  have hln := hl.len
  obtain ⟨hb1, hb2⟩ := hl.bounds
  obtain ⟨z, hz⟩ : ∃ z, ownerP l x = z := ⟨_, rfl⟩
  rw [hz]
  have HF := Lib.hid hf
  have HX := Lib.hid hx
  have HZ := Lib.hid hz
  clear hz
  go_enter Try.func12, Try.ntmps12
  go_wp2_with fail
  refine (plhas_any x w).mono ?_
  rintro e w2 ⟨rfl, rfl⟩
  have hl2 := hl.alloc (.cells #[.int .i64 x] 3)
  have hc2 : (w.alloc (.cells #[.int .i64 x] 3)).cell? ⟨w.heap.size, 0, none⟩ = some (.int .i64 x) := by rw [World.cell?_alloc_at _ _ _ _ rfl]; rfl
  have hB := below1 w (.cells #[.int .i64 x] 3)
  go_wp2_with fail
  refine (plindex_any A n c l x w.heap.size _ hl2 HF.out HX.out hc2).mono ?_
  rintro e w3 ⟨r, rfl, hr, hb3⟩
  replace hB := hB.trans (hb3.mono hB.size)
  rcases hr with ⟨rfl, hz, _⟩ | ⟨k, hk, rfl, hz⟩
  · have hz2 := Lib.hid (HZ.out.symm.trans hz)
    clear hz
    go_wp2_with fail
    go_ret
    exact ⟨by rw [hz2.out]; rfl, hB⟩
  · obtain ⟨b', o, rfl, hlt', hcc⟩ := (hl2.below hb3).at_ (by omega)
    have hck := (hcc k (by omega)).1
    have hz2 := Lib.hid (HZ.out.symm.trans hz)
    clear hz hcc
    generalize (l[k]'hk).f = f at *
    have hkn2 : (k : Int) < n := by omega
    go_wp2_with fail
    go_ret
    exact ⟨by rw [hz2.out]; rfl, hB⟩

end Go.Proofs.Ytogjkkhboaflcaa
