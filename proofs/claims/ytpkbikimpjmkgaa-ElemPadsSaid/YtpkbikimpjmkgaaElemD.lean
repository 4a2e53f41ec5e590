/-
  What the document's own answers for layer 8 come to: Read.
-/
import Derived.Test.YtpkbikimpjmkgaaElemS
import Derived.Test.YtpkbikimpjmkgaaBase
namespace Go.Proofs.Ytpkbikimpjmkgaa
open Go.RowKit
set_option linter.unusedVariables false
set_option linter.unusedSimpArgs false

theorem info_el : (Try.prog.info? 49).map (fun i => (i.zero, i.size, i.bytes)) = some (some (.agg #[.int .i64 0, .slice none 0 0]), 2, 32) := by kernel_rfl
theorem epC_one1 (e : Ep) : ∀ u ∈ epC e, u.oneCell' = true := by
  intro u hu
  simp only [epC, List.mem_cons, List.not_mem_nil, or_false] at hu
  rcases hu with rfl | rfl <;> rfl
theorem newEp (w : World) (e : Ep) (t : TypeId) : ∀ j u, (epC e)[j]? = some u → (w.alloc (.cells #[.int .i64 e.id, .slice e.A e.n e.c] t)).cell? ((⟨w.heap.size, 0, none⟩ : Addr).add j) = some u := by
  intro j u hj
  rw [add_plain', Nat.zero_add, World.cell?_alloc_at _ _ _ _ rfl]
  simpa [epC] using hj
/-- The slice value is a row of the call's own of elements, whose data lies elsewhere. -/
def OwnEl (w : World) (base : Nat) (A : Option Addr) (n c : Nat) (es : List Ep) : Prop := w.ownsRow base 49 2 (.slice A n c) n (es.flatMap epC) ∧ ∀ e ∈ es, Bs w e.A e.n e.c e.s ∧ (0 < e.n → rowOf e.A ≠ rowOf A)
theorem OwnEl.els {w : World} {base n c : Nat} {A : Option Addr} {es : List Ep} (h : OwnEl w base A n c es) : Els w A n c (es.map elOfEp) := ⟨es, rfl, SlK.of_own h.1, fun e he => (h.2 e he).1⟩
theorem OwnEl.nil (w : World) (base : Nat) : OwnEl w base none 0 0 [] := ⟨rowK_nil w base _ 2, by simp⟩
theorem OwnEl.len {w : World} {base n c : Nat} {A : Option Addr} {es : List Ep} (h : OwnEl w base A n c es) : es.length = n := by have := h.els.len; simpa using this
theorem OwnEl.below {w w' : World} {base n c : Nat} {A : Option Addr} {es : List Ep} (h : OwnEl w base A n c es) (hb : Below w.heap.size w w') : OwnEl w' base A n c es := ⟨rowK_below h.1 hb, fun e he => ⟨(h.2 e he).1.below hb, (h.2 e he).2⟩⟩
theorem bs_row_lt {w : World} {n c : Nat} {A : Option Addr} {s : List UInt8} (h : Bs w A n c s) (hn : 0 < n) : ∃ b, rowOf A = some b ∧ b < w.heap.size := by
  obtain ⟨b, o, rfl, hlt, _⟩ := h.at_ hn
  exact ⟨b, rfl, hlt⟩
theorem OwnEl.grown {w w' : World} {base n c m d : Nat} {A B : Option Addr} {es : List Ep} {x : Ep} (h : OwnEl w base A n c es) (hg : w.grownBy w' (rowOf A)) (hat : rowOf B = rowOf A ∨ rowOf B = some w.heap.size) (hr : w'.ownsRow base 49 2 (.slice B m d) m (es.flatMap epC ++ epC x)) (hx : Bs w x.A x.n x.c x.s) (hxA : 0 < x.n → rowOf x.A ≠ rowOf A) : OwnEl w' base B m d (es ++ [x]) := by
  refine ⟨by rw [List.flatMap_append, List.flatMap_cons, List.flatMap_nil, List.append_nil]; exact hr, fun p hp => ?_⟩
  have hp2 : Bs w p.A p.n p.c p.s ∧ (0 < p.n → rowOf p.A ≠ rowOf A) := by
    rw [List.mem_append, List.mem_singleton] at hp
    rcases hp with hp | rfl
    · exact h.2 p hp
    · exact ⟨hx, hxA⟩
  refine ⟨hp2.1.grown hg hp2.2, fun hn => ?_⟩
  rcases hat with e | e
  · rw [e]; exact hp2.2 hn
  · rw [e]
    obtain ⟨b, e1, e2⟩ := bs_row_lt hp2.1 hn
    rw [e1]
    intro e3
    injection e3 with e3
    omega
/-- What a call hands back: elements, and the number of an error. -/
def GivesEl (w : World) (l : List El) (err : Nat) (x : Ending) (w' : World) : Prop :=
  ∃ A m c, x = .returned (.tuple #[.slice A m c, .int .i64 err]) ∧ Els w' A m c l ∧ Below w.heap.size w w'

theorem spotsG_len (nw : Bool) : ∀ (f a : Nat) (r : List UInt8) (out : List Sp), (spotsG nw f a r out).2.length ≤ out.length + r.length := by
  intro f
  induction f with
  | zero => intro a r out; cases r <;> simp [spotsG]
  | succ f ih =>
    intro a r out
    cases r with
    | nil => simp [spotsG]
    | cons x r =>
      rw [spotsG_cons]
      simp only [List.length_cons]
      split
      · have := ih (a + 1) r out; omega
      · split
        · split
          · simp only; omega
          · split
            · simp
            · split
              · simp
              · have := ih (a + 1 + (x.toNat % 16 + 1)) (r.drop (x.toNat % 16 + 1)) (out ++ [⟨x.toNat / 16, a + 1, x.toNat % 16 + 1⟩])
                rw [List.length_append, List.length_drop] at this
                simp only [List.length_cons, List.length_nil] at this
                omega
        · cases r with
          | nil => simp
          | cons n r2 =>
            simp only [List.length_cons]
            split
            · simp
            · split
              · simp
              · have := ih (a + 2 + n.toNat) (r2.drop n.toNat) (out ++ [⟨x.toNat, a + 2, n.toNat⟩])
                rw [List.length_append, List.length_drop] at this
                simp only [List.length_cons, List.length_nil] at this
                omega
theorem spotsL_len (p : Nat) (s : List UInt8) : (spotsL p s).length ≤ s.length := by
  unfold spotsL
  split
  · have := spotsG_len (isNarrow p) s.length 0 s []
    simpa using this
  · simp

set_option maxRecDepth 100000 in
set_option maxHeartbeats 8000000 in
theorem rreadL_any (p : Nat) (A : Option Addr) (n c : Nat) (s : List UInt8) (w : World) (hs : Bs w A n c s) (hn : n ≤ 1000000) (hp : p < 65536) :
    Calls Try.prog 13 #[.int .u16 (p : Int), .slice A n c] w (GivesEl w (readL p s) (spotsE p s)) := by
  have HS := Lib.hid (fun W hs => rspots_any p A n c s W hs hn hp)
  have hso := spots_ok p s
  have hok : ∀ x ∈ spotsL p s, x.at_ + x.size ≤ n ∧ x.size ≤ 255 := by
    intro x hx
    by_cases h0 : spotsE p s = 0
    · obtain ⟨_, _, q3, q4, _⟩ := (hso.1 h0).1 x hx
      rw [hs.len] at q4
      exact ⟨q4, q3⟩
    · rw [hso.2.1 h0] at hx; simp at hx
  have hLn := spotsL_len p s
  rw [hs.len] at hLn
  have hrl : readL p s = (spotsL p s).map (elOf s) := rfl
  rw [hrl]
  generalize spotsL p s = L at *
  generalize spotsE p s = er at *
  clear hso hrl
  go_enter Try.func13, Try.ntmps13
  go_wp2_with fail
  refine (HS.out _ hs).mono ?_
  rintro x w2 ⟨B2, ln, d2, rfl, hsp, hb2⟩
  have hln := hsp.len
  have hlb := hsp.bounds
  rw [hln] at hLn
  have hw2 := hb2.size
  go_wp2_with fail
  go_loopw [8, 9] (fun v i W => ∃ (k : Nat) (B : Option Addr) (d : Nat) (es : List Ep), k ≤ ln ∧ i = .int .i64 k ∧ v = .slice B k d ∧ OwnEl W w2.heap.size B k d es ∧ es.map elOfEp = (L.take k).map (elOf s) ∧ Below w2.heap.size w2 W) (fun _ i _ => ln - (intOf i).toNat)
  case atStart => exact ⟨0, none, 0, [], Nat.zero_le _, rfl, rfl, OwnEl.nil _ _, rfl, Below.refl _ _⟩
  case round =>
    obtain ⟨k, B, d, es, hk, rfl, rfl, hown, hes, hB⟩ := hrel
    have hBw := hb2.trans (hB.mono hw2)
    have hbw := hB.size
    by_cases hkn : k < ln
    · obtain ⟨b, o, rfl, hlt2, hc⟩ := hsp.at_ (by omega)
      obtain ⟨p0, p1, p2⟩ := hc k (by omega)
      have hlt : b < wr.heap.size := by omega
      have q0 := (hB.cell (p := ⟨b, o + k * 3, none⟩) hlt2).trans p0
      have q1 := (hB.cell (p := ⟨b, o + k * 3 + 1, none⟩) hlt2).trans p1
      have q2 := (hB.cell (p := ⟨b, o + k * 3 + 2, none⟩) hlt2).trans p2
      clear p0 p1 p2
      obtain ⟨hfit, hsz⟩ := hok _ (List.getElem_mem (show k < L.length by omega))
      have htk := Lib.hid (List.take_succ_eq_append_getElem (l := L) (i := k) (by omega))
      have hkn2 : (k : Int) < ln := by omega
      clear hc
      generalize L[k]'(by omega) = x at *
      obtain ⟨id, pa, ps⟩ := x
      simp only at q0 q1 q2 hfit hsz
      have hsw := hs.below hBw
      obtain ⟨A1, c1, hsl, hY⟩ := hsw.slice_lr Try.underlying24 byte_size (a := pa) (r := pa + ps) (by omega) (by omega)
      rw [show pa + ps - pa = ps by omega] at hsl hY
      have hsl2 := fun W => hsl W (pa : Int) ((pa : Int) + ps) rfl (by omega)
      have hw1 : IntKind.i64.wrap ((pa : Int) + (ps : Int)) = (pa : Int) + ps := IntWalk.i64_in _ (by omega)
      clear hsl
      have hes' := Lib.hid hes
      clear hes
      have y0 : (wr.drew.alloc (.cells #[] 5)).cell? ⟨b, o + k * 3, none⟩ = some (.int .i64 id) := (World.cell?_alloc_lt wr.drew _ ⟨b, o + k * 3, none⟩ hlt).trans q0
      have y1 : (wr.drew.alloc (.cells #[] 5)).cell? ⟨b, o + k * 3 + 1, none⟩ = some (.int .i64 pa) := (World.cell?_alloc_lt wr.drew _ ⟨b, o + k * 3 + 1, none⟩ hlt).trans q1
      have y2 : (wr.drew.alloc (.cells #[] 5)).cell? ⟨b, o + k * 3 + 2, none⟩ = some (.int .i64 ps) := (World.cell?_alloc_lt wr.drew _ ⟨b, o + k * 3 + 2, none⟩ hlt).trans q2
      have hfarB : some b ≠ rowOf B := fun e => by have := rowV_ge hown.1 _ e.symm; omega
      have hfar7 : some b ≠ rowOf (some ⟨wr.heap.size, 0, none⟩ : Option Addr) := by simp [rowOf]; omega
      have hB0 : Below wr.heap.size wr (wr.drew.alloc (.cells #[] 5)) := (Below.refl _ wr).drew.alloc (by simp) _
      go_wp2_with fail
      go_region_held3 (fun W => W.cell? ⟨b, o + k * 3, none⟩ = some (.int .i64 id) ∧ W.cell? ⟨b, o + k * 3 + 1, none⟩ = some (.int .i64 pa) ∧ W.cell? ⟨b, o + k * 3 + 2, none⟩ = some (.int .i64 ps))
        (go_keep)
        (first
          | (refine step_app2 rfl (.tmp 28) (.tmp 46) 24 rfl wr.heap.size 5 Try.underlying24 byte_info (some ⟨wr.heap.size, 0, none⟩) 0 0 [] rfl (own_empty wr.drew _ _ (Nat.le_refl _)) A1 ps c1 _ rfl (hY.alloc _) (by omega) (by simp) ?_; intro A7 c7 w7 hown7 hgr7 hat7; rw [Nat.zero_add] at hown7; rw [List.nil_append] at hown7; rw [Nat.zero_add]; have v0 : w7.cell? ⟨b, o + k * 3, none⟩ = some (.int .i64 id) := (by rw [hgr7.cell_far _ (by simp; omega) hfar7]; exact y0); have v1 : w7.cell? ⟨b, o + k * 3 + 1, none⟩ = some (.int .i64 pa) := (by rw [hgr7.cell_far _ (by simp; omega) hfar7]; exact y1); have v2 : w7.cell? ⟨b, o + k * 3 + 2, none⟩ = some (.int .i64 ps) := (by rw [hgr7.cell_far _ (by simp; omega) hfar7]; exact y2); have hB7 : Below wr.heap.size wr w7 := hB0.grown hgr7 (by simp) (fun q hq => by simp [rowOf] at hq; omega); have hown8 := hown.below hB7; have hsz7 : wr.heap.size ≤ w7.heap.size := hB7.size; have hlt7 : b < w7.heap.size := Nat.lt_of_lt_of_le hlt hsz7; have hlt8 : ∀ C, b < (w7.alloc C).heap.size := fun C => by rw [World.size_alloc]; omega)
          | go_loud (refine step_appK rfl (.tmp 22) (.tmp 49) 22 rfl w2.heap.size 49 _ 2 32 Try.underlying22 info_el rfl (by omega) B k d _ rfl (rowK_alloc hown8.1 _) _ 1 1 (epC ⟨id, A7, ps, c7, (s.drop pa).take ps⟩) rfl rfl (newEp w7 ⟨id, A7, ps, c7, (s.drop pa).take ps⟩ _) (epC_one1 _) (by simp only [maxLen]; omega) (by omega) (by simp; omega) ?_; intro A9 c9 w9 hown9 hgr9 hat9; have u0 : w9.cell? ⟨b, o + k * 3, none⟩ = some (.int .i64 id) := (by rw [hgr9.cell_far _ (hlt8 _) hfarB, World.cell?_alloc_lt w7 _ ⟨b, o + k * 3, none⟩ hlt7]; exact v0); have u1 : w9.cell? ⟨b, o + k * 3 + 1, none⟩ = some (.int .i64 pa) := (by rw [hgr9.cell_far _ (hlt8 _) hfarB, World.cell?_alloc_lt w7 _ ⟨b, o + k * 3 + 1, none⟩ hlt7]; exact v1); have u2 : w9.cell? ⟨b, o + k * 3 + 2, none⟩ = some (.int .i64 ps) := (by rw [hgr9.cell_far _ (hlt8 _) hfarB, World.cell?_alloc_lt w7 _ ⟨b, o + k * 3 + 2, none⟩ hlt7]; exact v2)))
      all_goals
        go_wp2_with fail
        have hxr : 0 < ps → rowOf A7 ≠ rowOf B := fun hp e => by
          obtain ⟨g, e1, _⟩ := hown7.form hp
          rw [e1] at e
          have h1 := rowV_lt hown.1 wr.heap.size
          have h2 := hown7.row_ge g (by rw [e1]; rfl)
          have h3 := rowV_lt hown.1 g (by rw [← e]; rfl)
          omega
        have hg9 := OwnEl.grown (x := ⟨id, A7, ps, c7, (s.drop pa).take ps⟩) (hown8.below (below1 w7 (.cells #[.int .i64 (id : Int), .slice A7 ps c7] 49))) hgr9 hat9 hown9 (hown7.bs.alloc _) hxr
        have hB9 : Below w2.heap.size w2 w9 := ((hB.trans (hB7.mono hbw)).alloc (by omega) (.cells #[.int .i64 (id : Int), .slice A7 ps c7] 49)).grown hgr9 (by simp; omega) (fun q hq => rowV_ge hown.1 q hq)
        go_roundw
        case rel => exact ⟨k + 1, A9, c9, _, by omega, by go_num, rfl, hg9, by rw [List.map_append, htk.out, List.map_append, hes'.out]; rfl, hB9⟩
        case measure => simp [intOf]; omega
    · obtain rfl : k = ln := by omega
      have hkn2 : ¬ (k : Int) < k := by omega
      have hfin := hown.els
      rw [hes, List.take_of_length_le (by omega)] at hfin
      clear hes
      go_wp2_with fail
      go_ret2
      exact ⟨B, k, d, rfl, hfin, hBw⟩

end Go.Proofs.Ytpkbikimpjmkgaa
