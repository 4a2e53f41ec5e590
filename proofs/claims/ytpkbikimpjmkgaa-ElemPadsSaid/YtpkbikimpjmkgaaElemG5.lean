/-
  What the functions of package elem come to: Read, Canon (and bytes.Clone); all of them in one.
-/
import Derived.Test.YtpkbikimpjmkgaaElemG4
namespace Go.Proofs.Ytpkbikimpjmkgaa
open Go.RowKit
set_option linter.unusedVariables false
set_option linter.unusedSimpArgs false

set_option maxHeartbeats 1000000 in
theorem clone_any (A : Option Addr) (n c : Nat) (s : List UInt8) (w : World) (hs : Bs w A n c s) (hn : n ≤ 1000000) :
    Calls Try.prog 25 #[.slice A n c] w (GivesB w 5 s) := by
  have hsl := hs.len
  have qT : ∀ (w : World) (a : Option Addr) (n c n' c' : Nat), (binOp .eql 24 (.slice a n c) (.slice none n' c')).run Try.prog w = .ok (.bool a.isNone) w := fun w a n c n' c' => Lib.run_eql_slice_nil w _ _ a n c n' c' Try.underlying24
  cases A with
  | none =>
    obtain ⟨rfl, rfl⟩ := Sl.nothing hs rfl
    obtain rfl : s = [] := List.eq_nil_of_length_eq_zero hsl
    clear hsl hs
    go_enter Try.func25, Try.ntmps25
    go_wp2_with fail
    go_ret
    exact ⟨none, 0, rfl, Own.nil _ _ _, Below.refl _ _⟩
  | some ad =>
    obtain ⟨q, hq⟩ : ∃ q, q = s.length := ⟨_, rfl⟩
    unfold GivesB
    rw [← hq]
    have hqn : q = n := by omega
    subst hqn
    clear hq hsl
    have hnone : (some ad : Option Addr).isNone = false := rfl
    go_enter Try.func25, Try.ntmps25
    go_wp2_with (at_builtin; go_loud (refine wpList_app2 rfl (.tmp 5) (.tmp 6) 24 rfl w.heap.size 5 Try.underlying24 byte_info (some ⟨w.heap.size, 0, none⟩) 0 0 [] rfl (own_empty w _ _ (Nat.le_refl _)) (some ad) q c s rfl (hs.alloc _) (by omega) (by simp) ?_; intro A5 c5 w5 hown5 hg5 hat5))
    rw [Nat.zero_add, List.nil_append] at hown5
    go_ret
    refine ⟨A5, c5, rfl, hown5, (below1 w (.cells #[] 5)).grown hg5 (by simp) (fun q hq => by
      injection hq with hq
      subst hq
      exact Nat.le_refl _)⟩

set_option maxRecDepth 100000 in
set_option maxHeartbeats 8000000 in
theorem elread_any (p : Nat) (A : Option Addr) (n c : Nat) (s : List UInt8) (w : World) (hs : Bs w A n c s) (hn : n ≤ 1000000) (hp : p < 65536) :
    Calls Try.prog 12 #[.int .u16 (p : Int), .slice A n c] w (GivesEl w (readL p s) (spotsE p s)) := by
  have HS := Lib.hid (fun W hs => elspots_any p A n c s W hs hn hp)
  have hso := spots_ok p s
  have hok : ∀ x ∈ spotsL p s, x.at_ + x.size ≤ n ∧ x.size ≤ 255 := by
    intro x hx
    by_cases h0 : spotsE p s = 0
    · obtain ⟨_, _, q3, q4, _⟩ := (hso.1 h0).1 x hx
      rw [hs.len] at q4
      exact ⟨q4, q3⟩
    · rw [hso.2.1 h0] at hx; simp at hx
  have hLn := spotsL_len p s
  rw [hs.len] at hLn
  have hnil : spotsE p s ≠ 0 → spotsL p s = [] := hso.2.1
  have hrl : readL p s = (spotsL p s).map (elOf s) := rfl
  rw [hrl]
  generalize spotsL p s = L at *
  generalize spotsE p s = er at *
  clear hso hrl
  by_cases her : er = 0
  · subst her
    clear hnil
    go_enter Try.func12, Try.ntmps12
    go_wp2_with fail
    refine (HS.out _ hs).mono ?_
    rintro x w2 ⟨B2, ln, d2, rfl, hsp, hb2⟩
    have hln := hsp.len
    have hlb := hsp.bounds
    rw [hln] at hLn
    have hw2 := hb2.size
    go_wp2_with fail
    go_loopw [8, 22] (fun v i W => ∃ (k : Nat) (B : Option Addr) (d : Nat) (es : List Ep), k ≤ ln ∧ i = .int .i64 k ∧ v = .slice B k d ∧ OwnEl W w2.heap.size B k d es ∧ Hid (es.map elOfEp = (L.take k).map (elOf s)) ∧ Below w2.heap.size w2 W) (fun _ i _ => ln - (intOf i).toNat)
    case atStart => exact ⟨0, none, 0, [], Nat.zero_le _, rfl, rfl, OwnEl.nil _ _, Lib.hid rfl, Below.refl _ _⟩
    case round =>
      obtain ⟨k, B, d, es, hk, rfl, rfl, hown, hes, hB⟩ := hrel
      have hBw := hb2.trans (hB.mono hw2)
      have hbw := hB.size
      by_cases hkn : k < ln
      · obtain ⟨b, o, rfl, hlt2, hc⟩ := hsp.at_ (by omega)
        obtain ⟨p0, p1, p2⟩ := hc k (by omega)
        have q0 := (hB.cell (p := ⟨b, o + k * 3, none⟩) hlt2).trans p0
        have q1 := (hB.cell (p := ⟨b, o + k * 3 + 1, none⟩) hlt2).trans p1
        have q2 := (hB.cell (p := ⟨b, o + k * 3 + 2, none⟩) hlt2).trans p2
        clear p0 p1 p2
        obtain ⟨hfit, hsz⟩ := hok _ (List.getElem_mem (show k < L.length by omega))
        have htk := Lib.hid (List.take_succ_eq_append_getElem (l := L) (i := k) (by omega))
        have hkn2 : (k : Int) < ln := by omega
        clear hc
        generalize L[k]'(by omega) = x at *
        obtain ⟨id, pa, ps⟩ := x
        simp only at q0 q1 q2 hfit hsz
        have hsw := hs.below hBw
        obtain ⟨A1, c1, hsl, hY⟩ := hsw.slice_lr Try.underlying24 byte_size (a := pa) (r := pa + ps) (by omega) (by omega)
        rw [show pa + ps - pa = ps by omega] at hsl hY
        have hyl := Lib.hid hY.len
        obtain ⟨Y, hYe⟩ : ∃ Y, (s.drop pa).take ps = Y := ⟨_, rfl⟩
        rw [hYe] at hY hyl
        replace hYe := Lib.hid hYe
        have hsl2 := fun W => hsl W (pa : Int) ((pa : Int) + ps) rfl (by omega)
        have hw1 : IntKind.i64.wrap ((pa : Int) + (ps : Int)) = (pa : Int) + ps := IntWalk.i64_in _ (by omega)
        clear hsl
        have kb := Box.new wr [.int .i64 (id : Int), .int .i64 (pa : Int), .int .i64 (ps : Int)] 43
        have hY1 := hY.alloc (.cells #[.int .i64 (id : Int), .int .i64 (pa : Int), .int .i64 (ps : Int)] 43)
        have hown1 := hown.below (below1 wr (.cells #[.int .i64 (id : Int), .int .i64 (pa : Int), .int .i64 (ps : Int)] 43))
        have hB1 := hB.alloc hB.size (.cells #[.int .i64 (id : Int), .int .i64 (pa : Int), .int .i64 (ps : Int)] 43)
        have hfarB : some wr.heap.size ≠ rowOf B := fun e => by have := rowV_lt hown.1 _ e.symm; omega
        have hrowB := fun q hq => rowV_lt hown.1 q hq
        obtain ⟨y0, y1, y2, _⟩ := kb.three
        clear hY hsw
        go_wp2_with fail
        go_region_held3 (fun W => W.cell? ⟨wr.heap.size, 0, none⟩ = some (.int .i64 id) ∧ W.cell? ⟨wr.heap.size, 1, none⟩ = some (.int .i64 pa) ∧ W.cell? ⟨wr.heap.size, 2, none⟩ = some (.int .i64 ps))
          (go_keep)
          (first
            | (go_at_call 25; refine (clone_any A1 ps c1 _ _ hY1.drew (by omega)).mono ?_; rintro e w7 ⟨A7, c7, rfl, hown7, hb7⟩; rw [hyl.out] at hown7 ⊢; have k7 := Box.call (w := (wr.alloc (.cells #[.int .i64 (id : Int), .int .i64 (pa : Int), .int .i64 (ps : Int)] 43)).drew) kb hb7; obtain ⟨v0, v1, v2, _⟩ := k7.three; have hB7 := hB1.drew.trans (hb7.mono (by first | exact hB1.size | simpa using hB1.size)); have hwn7 : OwnEl w7 w2.heap.size B k d es := OwnEl.below (w := (wr.alloc (.cells #[.int .i64 (id : Int), .int .i64 (pa : Int), .int .i64 (ps : Int)] 43)).drew) hown1 hb7; have hwn8 := hwn7.below (below1 w7 (.cells #[.int .i64 (id : Int), .slice A7 ps c7] 49)); have k8 := k7.alloc (.cells #[.int .i64 (id : Int), .slice A7 ps c7] 49); have hs7 := hB7.size)
            | (refine step_appK rfl (.tmp 26) (.tmp 40) 22 rfl w2.heap.size 49 _ 2 32 Try.underlying22 info_el rfl (by omega) B k d _ rfl hwn8.1 _ 1 1 (epC ⟨id, A7, ps, c7, Y⟩) rfl rfl (newEp w7 ⟨id, A7, ps, c7, Y⟩ _) (epC_one1 _) (by simp only [maxLen]; omega) (by omega) (by simp; omega) ?_; intro A9 c9 w9 hown9 hgr9 hat9; have k9 := k8.grown hgr9 hfarB; obtain ⟨u0, u1, u2, _⟩ := k9.three))
        all_goals
          go_wp2_with fail
          have hxr : 0 < ps → rowOf A7 ≠ rowOf B := fun hp e => by
            obtain ⟨g, e1, e2, _⟩ := hown7.form hp
            rw [e1] at e
            have h3 := hrowB g (by rw [← e]; rfl)
            simp at e2
            omega
          have hg9 := OwnEl.grown (x := ⟨id, A7, ps, c7, Y⟩) hwn8 hgr9 hat9 hown9 (hown7.bs.alloc _) hxr
          have hB9 : Below w2.heap.size w2 w9 := (hB7.alloc hB7.size (.cells #[.int .i64 (id : Int), .slice A7 ps c7] 49)).grown hgr9 (by simp; omega) (fun q hq => rowV_ge hwn8.1 q hq)
          go_roundw
          case rel => exact ⟨k + 1, A9, c9, _, by omega, by go_num, rfl, hg9, Lib.hid (by rw [List.map_append, htk.out, List.map_append, hes.out, ← hYe.out]; rfl), hB9⟩
          case measure => simp [intOf]; omega
      · obtain rfl : k = ln := by omega
        have hkn2 : ¬ (k : Int) < k := by omega
        have hfin := hown.els
        have hes2 := hes.out
        rw [List.take_of_length_le (by omega)] at hes2
        rw [hes2] at hfin
        clear hes2
        go_wp2_with fail
        go_ret2
        exact ⟨B, k, d, rfl, hfin, hBw⟩
  · rw [hnil her] at *
    clear hnil
    have hne : ((er : Int) != 0) = true := by rw [bne_iff_ne]; omega
    go_enter Try.func12, Try.ntmps12
    go_wp2_with fail
    refine (HS.out _ hs).mono ?_
    rintro x w2 ⟨B2, ln, d2, rfl, hsp, hb2⟩
    go_wp2_with fail
    go_ret2
    exact ⟨none, 0, 0, rfl, Els.nil _, hb2⟩

theorem equal_any (A : Option Addr) (n c : Nat) (s : List UInt8) (B : Option Addr) (m d : Nat) (t : List UInt8) (w : World) (hs : Bs w A n c s) (ht : Bs w B m d t) :
    Calls Try.prog 27 #[.slice A n c, .slice B m d] w (Says w (.bool (decide (s = t)))) := by
  have h1 := str_of hs
  have h2 := str_of ht
  obtain ⟨z, hz⟩ : ∃ z, decide (s = t) = z := ⟨_, rfl⟩
  rw [hz]
  have HZ := Lib.hid (show (s == t) = z by rw [← hz, Bool.eq_iff_iff, beq_iff_eq, decide_eq_true_eq])
  clear hz
  go_enter Try.func27, Try.ntmps27
  go_wp2_with fail
  rw [HZ.out]
  go_ret
  exact ⟨rfl, Below.refl _ _⟩
set_option maxHeartbeats 4000000 in
theorem elcanon_any (p : Nat) (A : Option Addr) (n c : Nat) (s : List UInt8) (w : World) (hs : Bs w A n c s) (hn : n ≤ 1000000) (hp : p < 65536) :
    Calls Try.prog 19 #[.int .u16 (p : Int), .slice A n c] w (Says w (.bool (canonL p s))) := by
  have HR := Lib.hid (elread_any p A n c s w hs hn hp)
  by_cases he : spotsE p s = 0
  · have hr := read_right he
    have hcn : canonL p s = (decide (profL (readL p s) = p) && decide (writeL (readL p s) = s)) := by
      unfold canonL
      rw [Bool.eq_iff_iff, decide_eq_true_eq, Bool.and_eq_true, decide_eq_true_eq, decide_eq_true_eq]
      exact ⟨fun h => h.2, fun h => ⟨he, h⟩⟩
    have hll : (readL p s).length ≤ n := by
      have := spotsL_len p s
      rw [hs.len] at this
      unfold readL
      rw [List.length_map]
      exact this
    have hwe : writeEB (readL p s) = writeL (readL p s) := by unfold writeEB; rw [if_pos hr]
    rw [hcn]
    rw [he] at HR
    have hlen : (writeL (readL p s)).length ≤ 257 * n + 4 := by
      have h1 := body_small (nw := narrowL (readL p s)) (readL p s) ((rightL_iff _).1 hr).1
      unfold writeL
      rw [fillB_length]
      have h2 := miss_lt (bodyL (readL p s)).length
      unfold bodyL at h2 ⊢
      omega
    clear hcn he
    generalize readL p s = L at *
    go_enter Try.func19, Try.ntmps19
    go_wp2_with fail
    refine (HR.out).mono ?_
    rintro x w2 ⟨B, m, d, rfl, hel, hb⟩
    have hm := hel.len
    have HW := Lib.hid (elwrite_any B m d L w2 hel (by omega))
    rw [hwe] at HW
    have hs2 := hs.below hb
    clear hr hwe
    generalize writeL L = X at *
    generalize profL L = q at *
    generalize writeEE L = er at *
    have hbz := hb.size
    go_wp2_with fail
    refine (HW.out).mono ?_
    rintro x w3 ⟨B3, d3, rfl, hx3, hb3⟩
    have hs3 := hs2.below hb3
    have hB3 := hb.trans (hb3.mono hbz)
    generalize hXl : X.length = xl at *
    by_cases hqp : q = p
    · subst hqp
      have hqt : decide (q = q) = true := by simp
      rw [hqt, Bool.true_and]
      clear hqt
      go_wp2_with fail
      refine (equal_any B3 xl d3 X A n c s _ hx3 hs3).mono ?_
      rintro x w4 ⟨rfl, hb4⟩
      go_wp2_with fail
      go_ret
      exact ⟨rfl, hB3.trans (hb4.mono hB3.size)⟩
    · have hqt : decide (q = p) = false := decide_eq_false hqp
      have hqt2 : ((q : Int) == (p : Int)) = false := by rw [beq_eq_false_iff_ne]; omega
      replace hqt := Lib.hid hqt
      go_wp2_with fail
      go_ret
      exact ⟨by rw [hqt.out, Bool.false_and]; rfl, hB3⟩
  · have hcn : canonL p s = false := by unfold canonL; rw [decide_eq_false_iff_not]; exact fun h => he h.1
    rw [hcn]
    generalize spotsE p s = er at *
    have hne : ((er : Int) != 0) = true := by rw [bne_iff_ne]; omega
    clear hcn
    go_enter Try.func19, Try.ntmps19
    go_wp2_with fail
    refine (HR.out).mono ?_
    rintro x w2 ⟨B, m, d, rfl, hel, hb⟩
    go_wp2_with fail
    go_ret
    exact ⟨rfl, hb⟩

theorem elem_calls : ElemCalls where
  right := fun A n c l w h => elright_any A n c l w h.mem h.n
  profile := fun A n c l w h => elprofile_any A n c l w h.mem h.n
  write := fun A n c l w h => elwrite_any A n c l w h.mem h.n
  spots := fun p A n c s w hs hn hp => elspots_any p A n c s w hs hn hp
  read := fun p A n c s w hs hn hp => elread_any p A n c s w hs hn hp
  canon := fun p A n c s w hs hn hp => elcanon_any p A n c s w hs hn hp

end Go.Proofs.Ytpkbikimpjmkgaa
