/-
  What the functions of package head come to: sources, Write, Read; all of the contracts that layer 5 leans on.
-/
import Derived.Test.YtbalpndgpdbcbaaHeadG
namespace Go.Proofs.Ytbalpndgpdbcbaa
open Go.RowKit

def SrcI (w : World) (s : List UInt8) (n : Nat) (v i : Value) (W : World) : Prop :=
  ∃ (k : Nat) (B : Option Addr) (d : Nat), k ≤ n ∧ i = .int .i64 k ∧ v = .slice B k d ∧ OwnU W w.heap.size B k d (nums4 k (s.drop 12)) ∧ Below w.heap.size w W

set_option maxHeartbeats 1000000 in
theorem hsources_any (A : Option Addr) (l c : Nat) (s : List UInt8) (n : Nat) (w : World) (hs : Bs w A l c s) (hn : 12 + 4 * n ≤ l) (hn2 : n ≤ 15) :
    Calls Try.prog 48 #[.slice A l c, .int .i64 n] w fun e w' => ∃ B d, e = .returned (.slice B n d) ∧ OwnU w' w.heap.size B n d (nums4 n (s.drop 12)) ∧ Below w.heap.size w w' := by
  have hn4 := fun i => nums4_snoc i (s.drop 12)
  go_enter Try.func48, Try.ntmps48
  go_wp2_with fail
  go_loopw [5, 8] (fun v i W => SrcI w s n v i W) (fun _ i _ => n - (intOf i).toNat)
  case atStart => exact ⟨0, none, 0, Nat.zero_le _, rfl, rfl, World.ownsRow_nil _ _ _ _, Below.refl _ _⟩
  case round =>
    obtain ⟨k, B, d, hk, rfl, rfl, hown, hBk⟩ := hrel
    have hsw := hs.below hBk
    by_cases hkn : k < n
    · have hkn2 : (k : Int) < n := by omega
      have h8 := Lib.hid (hn4 k)
      have h9 : Hid (((s.drop 12).drop (4 * k)).take 4 = (s.drop (12 + 4 * k)).take 4) := Lib.hid (by rw [List.drop_drop])
      have Z := Lib.hid (fun W => hwith_any (k : Int) k W rfl (by omega))
      have NK := Lib.hid (fun W hs => hget_any A l c s (12 + 4 * (k : Int)) (12 + 4 * k) 4 4 W hs (by omega) (by omega) (by omega) (by omega) rfl)
      have hxl := num_lt4 s (12 + 4 * k)
      rw [h9.out] at h8
      generalize num ((s.drop (12 + 4 * k)).take 4) = x at *
      have hwx : IntKind.u32.wrap (x : Int) = (x : Int) := by rw [IntKind.wrap_u32]; omega
      clear hn4
      have hsz := hBk.size
      go_wp2_with fail
      refine (Z.out _).mono ?_
      rintro e w' ⟨rfl, rfl⟩
      go_wp2_with fail
      refine (NK.out _ hsw).mono ?_
      rintro e w' ⟨rfl, rfl⟩
      go_wp2_with (at_builtin; go_loud (refine wpList_appV rfl (.tmp 11) (.tmp 17) 24 rfl w.heap.size 23 (.int .u32 0) 4 Try.underlying24 info_u32 rfl B k d _ rfl (World.ownsRow.alloc hown _) _ 1 1 [.int .u32 x] rfl rfl (cell_one_new _ _ _) (by simp [Value.oneCell']) (by simp only [maxLen]; omega) (by omega) (by simp; omega) ?_; intro A9 c9 w2 hown2 hgrow hat))
      have e1 : OwnU w2 w.heap.size A9 (k + 1) c9 (nums4 (k + 1) (s.drop 12)) := by
        unfold OwnU
        rw [h8.out, List.map_append]
        exact hown2
      have hBg : Below w.heap.size w w2 := (hBk.alloc hBk.size (.cells #[.int .u32 x] 23)).grown hgrow (by simp; omega) (fun q hq => rowV_ge hown q hq)
      go_roundw
      case rel => exact ⟨k + 1, A9, c9, by omega, by go_num, rfl, e1, hBg⟩
      case measure => simp [intOf]; omega
    · obtain rfl : k = n := by omega
      have hkn2 : ¬ (k : Int) < k := by omega
      go_wp2
      go_ret
      exact ⟨B, d, rfl, hown, hBk⟩

/-- The slice value is a row of the call's own of slices of bytes. -/
def OwnP (w : World) (base : Nat) (A : Option Addr) (n c : Nat) (ps : List Part) : Prop := w.ownsRow base 27 1 (.slice A n c) n (ps.map Part.v) ∧ ∀ p ∈ ps, Bs w p.A p.n p.c p.s ∧ (0 < p.n → rowOf p.A ≠ rowOf A)
theorem OwnP.bss {w : World} {base n c : Nat} {A : Option Addr} {ps : List Part} (h : OwnP w base A n c ps) : Bss w A n c ps := ⟨Sl.of_own h.1, fun p hp => (h.2 p hp).1⟩
theorem Bs.row_lt {w : World} {n c : Nat} {A : Option Addr} {s : List UInt8} (h : Bs w A n c s) (hn : 0 < n) : ∃ b, rowOf A = some b ∧ b < w.heap.size := by
  obtain ⟨b, o, rfl, hlt, _⟩ := h.at_ hn
  exact ⟨b, rfl, hlt⟩
theorem OwnP.below {w w' : World} {base n c : Nat} {A : Option Addr} {ps : List Part} (h : OwnP w base A n c ps) (hb : Below w.heap.size w w') : OwnP w' base A n c ps := ⟨rowV_below h.1 hb, fun p hp => ⟨(h.2 p hp).1.below hb, (h.2 p hp).2⟩⟩
theorem info_bytes : (Try.prog.info? 27).map (fun i => (i.zero, i.size, i.bytes)) = some (some (.slice none 0 0), 1, 24) := by kernel_rfl
/-- Four parts that were just written out. -/
def Parts4 (w2 : World) (H : List UInt8) (v : Value) (W : World) : Prop :=
  ∃ (A : Option Addr) (c : Nat) (ps : List Part), v = .slice A 4 c ∧ ps.length = 4 ∧ OwnP W w2.heap.size A 4 c ps ∧ joined ps = H ∧ total ps = 12 ∧ Below w2.heap.size w2 W
theorem parts4 {w2 w : World} {A B C D : Option Addr} {n1 n2 n3 n4 c1 c2 c3 c4 : Nat} {s1 s2 s3 s4 : List UInt8} (hb : Below w2.heap.size w2 w) (h1 : Bs w A n1 c1 s1) (h2 : Bs w B n2 c2 s2) (h3 : Bs w C n3 c3 s3) (h4 : Bs w D n4 c4 s4) (hn : n1 + n2 + n3 + n4 = 12) :
    Parts4 w2 (s1 ++ s2 ++ s3 ++ s4) (.slice (some ⟨w.heap.size, 0, none⟩) 4 4) (w.alloc (.cells #[.slice A n1 c1, .slice B n2 c2, .slice C n3 c3, .slice D n4 c4] 27)) := by
  refine ⟨_, 4, [⟨A, n1, c1, s1⟩, ⟨B, n2, c2, s2⟩, ⟨C, n3, c3, s3⟩, ⟨D, n4, c4, s4⟩], rfl, rfl, ⟨?_, ?_⟩, by simp [joined], by simp [total]; omega, hb.alloc hb.size _⟩
  · exact World.ownsRow_lit (base := w2.heap.size) (e := 27) (size := 1) w #[.slice A n1 c1, .slice B n2 c2, .slice C n3 c3, .slice D n4 c4] 4 hb.size (by simp [maxLen]) rfl
  · intro p hp
    simp only [List.mem_cons, List.not_mem_nil, or_false] at hp
    have far : ∀ {A : Option Addr} {n c : Nat} {s : List UInt8}, Bs w A n c s → 0 < n → rowOf A ≠ rowOf (some ⟨w.heap.size, 0, none⟩) := by
      intro A n c s h hn e
      obtain ⟨b, e1, e2⟩ := h.row_lt hn
      rw [e1] at e
      injection e with e
      simp at e
      omega
    rcases hp with rfl | rfl | rfl | rfl
    · exact ⟨h1.alloc _, far h1⟩
    · exact ⟨h2.alloc _, far h2⟩
    · exact ⟨h3.alloc _, far h3⟩
    · exact ⟨h4.alloc _, far h4⟩
theorem OwnP.grown {w w' : World} {base n c : Nat} {A B : Option Addr} {ps : List Part} {d m : Nat} {x : Part} (h : OwnP w base A n c ps) (hg : w.grownBy w' (rowOf A)) (hat : rowOf B = rowOf A ∨ rowOf B = some w.heap.size) (hr : w'.ownsRow base 27 1 (.slice B m d) m (ps.map Part.v ++ [x.v])) (hx : Bs w x.A x.n x.c x.s) (hxA : 0 < x.n → rowOf x.A ≠ rowOf A) : OwnP w' base B m d (ps ++ [x]) := by
  refine ⟨by rw [List.map_append]; exact hr, fun p hp => ?_⟩
  have hp2 : Bs w p.A p.n p.c p.s ∧ (0 < p.n → rowOf p.A ≠ rowOf A) := by
    rw [List.mem_append, List.mem_singleton] at hp
    rcases hp with hp | rfl
    · exact h.2 p hp
    · exact ⟨hx, hxA⟩
  refine ⟨hp2.1.grown hg hp2.2, fun hn => ?_⟩
  rcases hat with e | e
  · rw [e]; exact hp2.2 hn
  · rw [e]
    obtain ⟨b, e1, e2⟩ := hp2.1.row_lt hn
    rw [e1]
    intro e3
    injection e3 with e3
    omega
theorem bs_pair (w : World) (F S : Nat) (hF : F < 256) (hS : S < 256) : Bs (w.alloc (.cells #[.int .u8 (F : Int), .int .u8 (S : Int)] 5)) (some ⟨w.heap.size, 0, none⟩) 2 2 [UInt8.ofNat F, UInt8.ofNat S] := by
  have := Sl.lit w [.int .u8 (F : Int), .int .u8 (S : Int)] 5 (by simp [maxLen])
  unfold Bs
  simp only [List.map_cons, List.map_nil, byteV, toNat_ofNat hF, toNat_ofNat hS]
  exact this

def WrI (w : World) (l : List Nat) (H : List UInt8) (bx : List Value) (B i : Value) (W : World) : Prop :=
  ∃ (k : Nat) (A : Option Addr) (c : Nat) (ps : List Part), k ≤ l.length ∧ i = .int .i64 k ∧ B = .slice A (4 + k) c ∧ Box W w.heap.size bx ∧ Below w.heap.size w W ∧ ps.length = 4 + k ∧ OwnP W (w.heap.size + 1) A (4 + k) c ps ∧ joined ps = H ++ be4s (l.take k) ∧ total ps = 12 + 4 * k

set_option maxRecDepth 100000 in
set_option maxHeartbeats 4000000 in
theorem hwrite_yes (p e m : Bool) (t : Int) (q ti ss : Nat) (A : Option Addr) (n c : Nat) (l : List Nat) (w : World) (hl : Us w A n c l) (hr : rightH ⟨p, e, m, t, q, ti, ss, l⟩ = true) (hf : fitsH ⟨p, e, m, t, q, ti, ss, l⟩) :
    Calls Try.prog 21 #[.agg #[.bool p, .bool e, .bool m, .int .i64 t, .int .u16 q, .int .u32 ti, .int .u32 ss, .slice A n c]] w (GivesS w (headB ⟨p, e, m, t, q, ti, ss, l⟩) 0) := by
  have hright := hr
  unfold rightH at hr
  rw [decide_eq_true_eq] at hr
  obtain ⟨h0, h1, h2⟩ := hr
  obtain ⟨f1, f2, f3, f4⟩ := hf
  simp only at h0 h1 h2 f1 f2 f3 f4
  have hln := hl.len
  have hn15 : n ≤ 15 := by omega
  obtain ⟨hl1, hl2⟩ := hl.bounds
  have R := Lib.hid (fun w => hright_any p e m t q ti ss A n c l w hln (by omega))
  rw [hright] at R
  have F := Lib.hid (fun w => hfirst_any p e m t q ti ss A n c l w hln hn15)
  have G := Lib.hid (fun w => hsecond_any p e m t q ti ss A n c l w h0 h1)
  have hF2 : firstB ⟨p, e, m, t, q, ti, ss, l⟩ < 256 := by have := firstB_lt (h := ⟨p, e, m, t, q, ti, ss, l⟩) h2; omega
  have hS2 : secondB ⟨p, e, m, t, q, ti, ss, l⟩ < 256 := by
    have := n1_le m 128
    unfold secondB
    simp only
    omega
  have hres : headB ⟨p, e, m, t, q, ti, ss, l⟩ = ([UInt8.ofNat (firstB ⟨p, e, m, t, q, ti, ss, l⟩), UInt8.ofNat (secondB ⟨p, e, m, t, q, ti, ss, l⟩)] ++ be 2 q ++ be 4 ti ++ be 4 ss) ++ be4s l := by simp [headB]
  have hHl : Hid ((headB ⟨p, e, m, t, q, ti, ss, l⟩).length = 12 + 4 * l.length) := Lib.hid (by rw [headB_length])
  generalize headB ⟨p, e, m, t, q, ti, ss, l⟩ = Z at *
  have HZ := Lib.hid hres
  clear hres
  generalize firstB ⟨p, e, m, t, q, ti, ss, l⟩ = X at *
  generalize secondB ⟨p, e, m, t, q, ti, ss, l⟩ = Y at *
  have P1 := Lib.hid (fun x w hx => hput_any q 2 x w hx (by omega) (by omega) (by simpa using f1))
  have P2 := Lib.hid (fun x w hx => hput_any ti 4 x w hx (by omega) (by omega) (by simpa using f2))
  have P3 := Lib.hid (fun x w hx => hput_any ss 4 x w hx (by omega) (by omega) (by simpa using f3))
  clear hright h0 h1 h2
  go_enter Try.func21, Try.ntmps21
  go_wp2_with fail
  have k1 := Box.new w [.bool p, .bool e, .bool m, .int .i64 t, .int .u16 q, .int .u32 ti, .int .u32 ss, .slice A n c] 26
  have hB := below1 w (.cells #[.bool p, .bool e, .bool m, .int .i64 t, .int .u16 q, .int .u32 ti, .int .u32 ss, .slice A n c] 26)
  refine (R.out _).mono ?_
  rintro x w2 ⟨rfl, hb2⟩
  replace k1 := k1.call hb2
  replace hB := hB.trans (hb2.mono hB.size)
  clear hb2
  have fk1 := k1.eight.1
  have lk := k1.2.2
  have e1 : IntKind.u64.wrap (q : Int) = (q : Int) := by rw [IntKind.wrap_u64]; omega
  have e2 : IntKind.u64.wrap (ti : Int) = (ti : Int) := by rw [IntKind.wrap_u64]; omega
  have e3 : IntKind.u64.wrap (ss : Int) = (ss : Int) := by rw [IntKind.wrap_u64]; omega
  go_upto_region 3 with fail
  go_cut [4] (fun v W => Parts4 w2 ([UInt8.ofNat X, UInt8.ofNat Y] ++ be 2 q ++ be 4 ti ++ be 4 ss) v W)
  case first =>
    go_region_held3 (fun W => W.cell? ⟨w.heap.size, 0, none⟩ = some (.bool p) ∧ W.cell? ⟨w.heap.size, 1, none⟩ = some (.bool e) ∧ W.cell? ⟨w.heap.size, 2, none⟩ = some (.bool m) ∧ W.cell? ⟨w.heap.size, 3, none⟩ = some (.int .i64 t) ∧ W.cell? ⟨w.heap.size, 4, none⟩ = some (.int .u16 q) ∧ W.cell? ⟨w.heap.size, 5, none⟩ = some (.int .u32 ti) ∧ W.cell? ⟨w.heap.size, 6, none⟩ = some (.int .u32 ss) ∧ W.cell? ⟨w.heap.size, 7, none⟩ = some (.slice A n c))
      (go_keep)
      (first
        | (go_at_call 40; refine (F.out _).mono ?_; rintro x wF ⟨rfl, hbF⟩; have kF := Box.call (w := w2.drew) k1 hbF; have yF := kF.eight.1)
        | (go_at_call 41; refine (G.out _).mono ?_; rintro x wG ⟨rfl, hbG⟩; have kG := kF.call hbG; have yG := kG.eight.1)
        | (go_at_call 42; (fail_if_success have := kP); refine (P1.out _ _ rfl).mono ?_; rintro x wP ⟨AP, cP, rfl, hP, hbP⟩; have kP := (by first | exact kG.call hbP | exact (kG.alloc _).call hbP : Box wP w.heap.size [.bool p, .bool e, .bool m, .int .i64 t, .int .u16 q, .int .u32 ti, .int .u32 ss, .slice A n c]); have yP := kP.eight.1)
        | (go_at_call 42; have _z := kP; (fail_if_success have := kQ); refine (P2.out _ _ rfl).mono ?_; rintro x wQ ⟨AQ, cQ, rfl, hQ, hbQ⟩; have kQ := (by first | exact kP.call hbQ | exact (kP.alloc _).call hbQ : Box wQ w.heap.size [.bool p, .bool e, .bool m, .int .i64 t, .int .u16 q, .int .u32 ti, .int .u32 ss, .slice A n c]); have yQ := kQ.eight.1)
        | (go_at_call 42; have _z := kQ; refine (P3.out _ _ rfl).mono ?_; rintro x wR ⟨AR, cR, rfl, hR, hbR⟩; have kR := (by first | exact kQ.call hbR | exact (kQ.alloc _).call hbR : Box wR w.heap.size [.bool p, .bool e, .bool m, .int .i64 t, .int .u16 q, .int .u32 ti, .int .u32 ss, .slice A n c]); have yR := kR.eight.1))
    all_goals
      go_wp2_with fail
      go_meet
      clear fk1 yF yG yP yQ yR kF kG kP kQ kR R F G P1 P2 P3 hHl k1 hB hl
      have b1 : Below w2.heap.size w2 wG := (Below.refl _ w2).drew.trans (hbF.trans (hbG.mono hbF.size))
      have z1 := b1.size
      have pr := fun W => bs_pair W X Y hF2 hS2
      replace hP := hP.bs
      replace hQ := hQ.bs
      replace hR := hR.bs
      first
        | exact parts4 (((((b1.alloc z1 _).trans (hbP.mono (by simp; omega)))).trans (hbQ.mono (by have := hbP.size; simp at this; omega))).trans (hbR.mono (by have := hbP.size; have := hbQ.size; simp at *; omega))) ((((pr wG).below hbP).below hbQ).below hbR) ((hP.below hbQ).below hbR) (hQ.below hbR) hR (by omega)
        | exact parts4 ((((b1.trans (hbP.mono z1)).alloc (by have := hbP.size; omega) _).trans (hbQ.mono (by have := hbP.size; simp; omega))).trans (hbR.mono (by have := hbP.size; have := hbQ.size; simp at *; omega))) (((pr wP).below hbQ).below hbR) (((hP.alloc _).below hbQ).below hbR) (hQ.below hbR) hR (by omega)
        | exact parts4 ((((b1.trans (hbP.mono z1)).trans (hbQ.mono (by have := hbP.size; omega))).alloc (by have := hbP.size; have := hbQ.size; omega) _).trans (hbR.mono (by have := hbP.size; have := hbQ.size; simp at *; omega))) ((pr wQ).below hbR) (((hP.below hbQ).alloc _).below hbR) ((hQ.alloc _).below hbR) hR (by omega)
        | (have hh := parts4 ((((b1.trans (hbP.mono z1)).trans (hbQ.mono (by have := hbP.size; omega))).trans (hbR.mono (by have := hbP.size; have := hbQ.size; omega))).alloc (by have := hbP.size; have := hbQ.size; have := hbR.size; omega) _) (pr wR) (((hP.below hbQ).below hbR).alloc _) ((hQ.below hbR).alloc _) (hR.alloc _) (by omega)
           rw [World.size_alloc] at hh
           exact hh)
  case rest =>
    obtain ⟨A3, c3, ps, rfl, hps, hown, hj, ht, hb3⟩ := hcut
    clear fk1 e1 e2 e3 R F G P1 P2 P3
    generalize [UInt8.ofNat X, UInt8.ofNat Y] ++ be 2 q ++ be 4 ti ++ be 4 ss = H at *
    replace k1 := k1.call hb3
    replace hB := hB.trans (hb3.mono hB.size)
    have f7 := k1.field 7 rfl
    have hown1 : OwnP wc (w.heap.size + 1) A3 4 c3 ps := ⟨rowV_mono hown.1 lk, hown.2⟩
    clear hown hb3
    go_wp2_with fail
    obtain ⟨bx, hbx⟩ : ∃ bx : List Value, bx = [.bool p, .bool e, .bool m, .int .i64 t, .int .u16 q, .int .u32 ti, .int .u32 ss, .slice A n c] := ⟨_, rfl⟩
    rw [← hbx] at k1
    clear hbx f7
    go_loopw [4, 31] (fun B i W => WrI w l H bx B i W) (fun _ i _ => n - (intOf i).toNat)
    case atStart => exact ⟨0, A3, c3, ps, Nat.zero_le _, rfl, rfl, k1, hB, hps, hown1, by simpa [be4s] using hj, ht⟩
    case round =>
      obtain ⟨k, Ak, ck, qs, hk, rfl, rfl, kb, hBk, hqs, hok, hj, ht⟩ := hrel
      clear k1 hB hown1
      have hsz := hBk.size
      have hks := kb.2.2
      have hlk := hl.below hBk
      by_cases hkl : k < l.length
      · obtain ⟨b, o, rfl, _, hc⟩ := hlk.at_ (by omega)
        have hck := hc k hkl
        have hx4 := f4 _ (List.getElem_mem hkl)
        have hts := Lib.hid (be4s_snoc (l.take k) l[k])
        have htk := Lib.hid (List.take_succ_eq_append_getElem hkl)
        have hkn : (k : Int) < n := by omega
        generalize l[k] = x at *
        clear hc
        have ex : IntKind.u64.wrap (x : Int) = (x : Int) := by rw [IntKind.wrap_u64]; omega
        go_wp2_with fail
        refine (hput_any x 4 _ _ rfl (by omega) (by omega) (by simpa using hx4)).mono ?_
        rintro z w8 ⟨A8, c8, rfl, hs8, hb⟩
        have hlt8 := hok.1
        replace hok := hok.below hb
        replace kb := kb.call hb
        replace hBk := hBk.trans (hb.mono hBk.size)
        have hsz8 := hBk.size
        have hks8 := kb.2.2
        have hfar8 : 0 < 4 → rowOf A8 ≠ rowOf Ak := by
          intro _ e
          obtain ⟨b8, e1, e2⟩ := hs8.bs.row_lt (by omega)
          have q1 := hs8.row_ge b8 e1
          have q2 := rowV_lt hlt8 b8 (by rw [← e, e1])
          omega
        replace hs8 := hs8.bs
        clear hck hlk hb hsz hlt8
        have hnews := cell_one_new w8 (.slice A8 4 c8) 27
        go_wp2_with (at_builtin; go_loud (refine wpList_appV rfl (.tmp 35) (.tmp 39) 67 rfl (w.heap.size + 1) 27 (.slice none 0 0) 24 Try.underlying67 info_bytes rfl Ak (4 + k) ck _ rfl (World.ownsRow.alloc hok.1 _) _ 1 1 [.slice A8 4 c8] rfl rfl hnews (by simp [Value.oneCell']) (by simp only [maxLen]; omega) (by omega) (by simp; omega) ?_; intro A9 c9 w9 hown9 hgrow hat))
        have hgo : OwnP w9 (w.heap.size + 1) A9 (4 + k + 1) c9 (qs ++ [⟨A8, 4, c8, be 4 x⟩]) := OwnP.grown (w := w8.alloc (.cells #[.slice A8 4 c8] 27)) ⟨World.ownsRow.alloc hok.1 _, fun p hp => ⟨(hok.2 p hp).1.alloc _, (hok.2 p hp).2⟩⟩ hgrow hat hown9 (hs8.alloc _) hfar8
        have hfar0 : some w.heap.size ≠ rowOf Ak := fun e => by have := rowV_ge hok.1 _ e.symm; omega
        have hBg : Below w.heap.size w w9 := (hBk.alloc hBk.size (.cells #[.slice A8 4 c8] 27)).grown hgrow (by simp; omega) (fun q hq => by have := rowV_ge hok.1 q hq; omega)
        go_roundw
        case rel => exact ⟨k + 1, A9, c9, _, by omega, by go_num, rfl, (kb.alloc _).grown hgrow hfar0, hBg, by simp; omega, hgo, by rw [htk.out, hts.out, ← List.append_assoc, ← hj]; simp [joined], by simp [total] at ht ⊢; omega⟩
        case measure => simp [intOf]; omega
      · obtain rfl : k = l.length := by omega
        rw [List.take_length] at hj
        have hkn : ¬ (l.length : Int) < n := by omega
        go_wp2_with fail
        rw [hln] at hok
        refine (join_any Ak (4 + n) ck qs _ hok.bss (by omega)).mono ?_
        rintro e w9 ⟨A9, c9, rfl, ho9, hb⟩
        rw [hj, ← HZ.out] at ho9 ⊢
        go_wp2_with fail
        go_ret2
        exact ⟨A9, c9, rfl, ho9.bs, hBk.trans (hb.mono hBk.size)⟩

theorem hwrite_no (p e m : Bool) (t : Int) (q ti ss : Nat) (A : Option Addr) (n c : Nat) (l : List Nat) (w : World) (hl : Us w A n c l) (hr : rightH ⟨p, e, m, t, q, ti, ss, l⟩ = false) :
    Calls Try.prog 21 #[.agg #[.bool p, .bool e, .bool m, .int .i64 t, .int .u16 q, .int .u32 ti, .int .u32 ss, .slice A n c]] w (GivesS w [] 1) := by
  obtain ⟨hl1, hl2⟩ := hl.bounds
  have R := Lib.hid (fun w => hright_any p e m t q ti ss A n c l w hl.len (by omega))
  rw [hr] at R
  clear hr hl
  go_enter Try.func21, Try.ntmps21
  go_wp2_with fail
  have hB := below1 w (.cells #[.bool p, .bool e, .bool m, .int .i64 t, .int .u16 q, .int .u32 ti, .int .u32 ss, .slice A n c] 26)
  refine (R.out _).mono ?_
  rintro x w2 ⟨rfl, hb2⟩
  go_wp2_with fail
  go_ret2
  exact ⟨none, 0, rfl, Bs.nil _, hB.trans (hb2.mono hB.size)⟩
theorem hwrite_any (p e m : Bool) (t : Int) (q ti ss : Nat) (A : Option Addr) (n c : Nat) (l : List Nat) (w : World) (hl : Us w A n c l) (hf : fitsH ⟨p, e, m, t, q, ti, ss, l⟩) :
    Calls Try.prog 21 #[.agg #[.bool p, .bool e, .bool m, .int .i64 t, .int .u16 q, .int .u32 ti, .int .u32 ss, .slice A n c]] w (GivesS w (writeH ⟨p, e, m, t, q, ti, ss, l⟩) (writeE ⟨p, e, m, t, q, ti, ss, l⟩)) := by
  unfold writeH writeE
  by_cases hr : rightH ⟨p, e, m, t, q, ti, ss, l⟩ = true
  · rw [if_pos hr, if_pos hr]
    exact hwrite_yes p e m t q ti ss A n c l w hl hr hf
  · rw [if_neg hr, if_neg hr]
    exact hwrite_no p e m t q ti ss A n c l w hl (by simpa using hr)

set_option maxRecDepth 100000 in
theorem and32_bool (x : Nat) (h : x < 256) : (bits .and .u8 (x : Int) 32 != 0) = decide (x / 32 % 2 = 1) := by
  have k : ∀ y : Fin 256, ((y.val &&& 32) != 0) = decide (y.val / 32 % 2 = 1) := by decide
  have kk := k ⟨x, h⟩
  simp only at kk
  rw [show (32 : Int) = ((32 : Nat) : Int) from rfl, u8_and_nat _ _ h (by omega), ← kk]
  rw [Bool.eq_iff_iff, bne_iff_ne, bne_iff_ne]
  omega
set_option maxRecDepth 100000 in
theorem and16_bool (x : Nat) (h : x < 256) : (bits .and .u8 (x : Int) 16 != 0) = decide (x / 16 % 2 = 1) := by
  have k : ∀ y : Fin 256, ((y.val &&& 16) != 0) = decide (y.val / 16 % 2 = 1) := by decide
  have kk := k ⟨x, h⟩
  simp only at kk
  rw [show (16 : Int) = ((16 : Nat) : Int) from rfl, u8_and_nat _ _ h (by omega), ← kk]
  rw [Bool.eq_iff_iff, bne_iff_ne, bne_iff_ne]
  omega
set_option maxRecDepth 100000 in
theorem and128_bool (x : Nat) (h : x < 256) : (bits .and .u8 (x : Int) 128 != 0) = decide (128 ≤ x) := by
  have k : ∀ y : Fin 256, ((y.val &&& 128) != 0) = decide (128 ≤ y.val) := by decide
  have kk := k ⟨x, h⟩
  simp only at kk
  rw [show (128 : Int) = ((128 : Nat) : Int) from rfl, u8_and_nat _ _ h (by omega), ← kk]
  rw [Bool.eq_iff_iff, bne_iff_ne, bne_iff_ne]
  omega
theorem and127_mod (x : Nat) (h : x < 256) : IntKind.i64.wrap (bits .and .u8 (x : Int) 127) = ((x % 128 : Nat) : Int) := by
  rw [show (127 : Int) = ((127 : Nat) : Int) from rfl, u8_and_nat _ _ h (by omega), show x &&& 127 = x % 128 from Nat.and_two_pow_sub_one_eq_mod x 7]
  exact IntWalk.i64_in _ (by omega)

set_option maxRecDepth 100000 in
set_option maxHeartbeats 4000000 in
theorem hread_any (A : Option Addr) (l c : Nat) (s : List UInt8) (w : World) (hs : Bs w A l c s) (hl : l ≤ 140737488355328) :
    Calls Try.prog 28 #[.slice A l c] w (GivesHO w (readH s) (readN s) (hErr s)) := by
  have hsl := hs.len
  unfold readH readN
  by_cases h12 : l < 12
  · rw [show hErr s = 2 from if_pos (by omega)]
    clear hsl
    go_enter Try.func28, Try.ntmps28
    go_wp2_with fail
    exact bodyPost_ret (v := .tuple #[hdV zeroH none 0, .int .i64 ((0 : Nat) : Int), .int .i64 ((2 : Nat) : Int)]) (by simp [results, Try.results28, go_sem, hdV, zeroH]) rfl ⟨none, 0, rfl, World.ownsRow_nil _ _ _ _, below1 w _⟩
  · obtain ⟨b, o, rfl, hlt, hcell⟩ := g8_at hs (by omega)
    have c0 := hcell 0 (by omega)
    have c1 := hcell 1 (by omega)
    have b0 := g8_lt s 0
    have b1 := g8_lt s 1
    rw [Nat.add_zero] at c0
    by_cases hv : g8 s 0 / 64 = 2
    · by_cases hfew : l < 12 + 4 * (g8 s 0 % 16)
      · rw [show hErr s = 2 from by unfold hErr; rw [if_neg (by omega), if_neg (by omega), if_pos (by omega)]]
        obtain ⟨nn, hnn⟩ : ∃ nn, nn = g8 s 0 % 16 := ⟨_, rfl⟩
        have Z := Lib.hid (fun k w h => hwith_any k nn w h (by omega))
        have hfew2 : (l : Int) < 12 + 4 * (nn : Int) := by omega
        rw [← hnn] at hfew
        generalize g8 s 0 = x0 at *
        have hv2 : ((x0 : Int) / 64 != 2) = false := by rw [bne_eq_false_iff_eq]; omega
        have hx : (x0 : Int) % 16 = (nn : Int) := by omega
        clear hsl hcell hv hnn hfew
        go_enter Try.func28, Try.ntmps28
        go_wp2_with fail
        refine (Z.out _ _ rfl).mono ?_
        rintro x w2 ⟨rfl, rfl⟩
        go_wp2_with fail
        exact bodyPost_ret (v := .tuple #[hdV zeroH none 0, .int .i64 ((0 : Nat) : Int), .int .i64 ((2 : Nat) : Int)]) (by simp [results, Try.results28, go_sem, hdV, zeroH]) rfl ⟨none, 0, rfl, World.ownsRow_nil _ _ _ _, below1 w _⟩
      · have he : hErr s = 0 := by unfold hErr; rw [if_neg (by omega), if_neg (by omega), if_neg (by omega)]
        rw [he, if_pos rfl, if_pos rfl]
        have hof : hOf s = ⟨decide (g8 s 0 / 32 % 2 = 1), decide (g8 s 0 / 16 % 2 = 1), decide (128 ≤ g8 s 1), ((g8 s 1 % 128 : Nat) : Int), num ((s.drop 2).take 2), num ((s.drop 4).take 4), num ((s.drop 8).take 4), nums4 (g8 s 0 % 16) (s.drop 12)⟩ := rfl
        have N2 := Lib.hid (fun W hs => hget_any (some ⟨b, o, none⟩) l c s 2 2 2 2 W hs rfl (by omega) (by omega) (by omega) rfl)
        have N4 := Lib.hid (fun W hs => hget_any (some ⟨b, o, none⟩) l c s 4 4 4 4 W hs rfl (by omega) (by omega) (by omega) rfl)
        have N8 := Lib.hid (fun W hs => hget_any (some ⟨b, o, none⟩) l c s 8 8 4 4 W hs rfl (by omega) (by omega) (by omega) rfl)
        have q2 := num_lt2 s 2
        have q4 := num_lt4 s 4
        have q8 := num_lt4 s 8
        clear he
        generalize num ((s.drop 2).take 2) = v2 at *
        generalize num ((s.drop 4).take 4) = v4 at *
        generalize num ((s.drop 8).take 4) = v8 at *
        obtain ⟨nn, hnn⟩ : ∃ nn, nn = g8 s 0 % 16 := ⟨_, rfl⟩
        have Z := Lib.hid (fun k w h => hwith_any k nn w h (by omega))
        have SR := Lib.hid (fun W hs => hsources_any (some ⟨b, o, none⟩) l c s nn W hs (by omega) (by omega))
        have hfew2 : ¬ ((l : Int) < 12 + 4 * (nn : Int)) := by omega
        rw [← hnn] at hof ⊢
        have Hof := Lib.hid hof
        clear hof
        have hx : (g8 s 0 : Int) % 16 = (nn : Int) := by omega
        have hv2 : ((g8 s 0 : Int) / 64 != 2) = false := by rw [bne_eq_false_iff_eq]; omega
        have w2 : IntKind.u16.wrap (v2 : Int) = (v2 : Int) := by rw [IntKind.wrap_u16]; omega
        have w4 : IntKind.u32.wrap (v4 : Int) = (v4 : Int) := by rw [IntKind.wrap_u32]; omega
        have w8 : IntKind.u32.wrap (v8 : Int) = (v8 : Int) := by rw [IntKind.wrap_u32]; omega
        generalize g8 s 0 = x0 at *
        generalize g8 s 1 = x1 at *
        clear hsl hcell hv hnn hfew q2 q4 q8
        go_enter Try.func28, Try.ntmps28
        go_wp2_with fail
        refine (Z.out _ _ rfl).mono ?_
        rintro x wz ⟨rfl, rfl⟩
        have k1 := Box.new w [.bool false, .bool false, .bool false, .int .i64 0, .int .u16 0, .int .u32 0, .int .u32 0, .slice none 0 0] 26
        have hs1 := hs.alloc (.cells #[.bool false, .bool false, .bool false, .int .i64 0, .int .u16 0, .int .u32 0, .int .u32 0, .slice none 0 0] 26)
        have hB := below1 w (.cells #[.bool false, .bool false, .bool false, .int .i64 0, .int .u16 0, .int .u32 0, .int .u32 0, .slice none 0 0] 26)
        have hne : w.heap.size ≠ b := by omega
        have i0 : 0 < l := by omega
        have i1 : (1 : Int) < (l : Int) := by omega
        have d0 : (w.alloc (.cells #[.bool false, .bool false, .bool false, .int .i64 0, .int .u16 0, .int .u32 0, .int .u32 0, .slice none 0 0] 26)).drew.cell? ⟨b, o, none⟩ = some (.int .u8 (x0 : Int)) := (World.cell?_alloc_lt w _ ⟨b, o, none⟩ hlt).trans c0
        have d1 : (w.alloc (.cells #[.bool false, .bool false, .bool false, .int .i64 0, .int .u16 0, .int .u32 0, .int .u32 0, .slice none 0 0] 26)).drew.cell? ⟨b, o + 1, none⟩ = some (.int .u8 (x1 : Int)) := (World.cell?_alloc_lt w _ ⟨b, o + 1, none⟩ hlt).trans c1
        go_wp2_with fail
        go_region_held3 (fun W => W.cell? ⟨b, o, none⟩ = some (.int .u8 (x0 : Int)) ∧ W.cell? ⟨b, o + 1, none⟩ = some (.int .u8 (x1 : Int)))
          (go_keep)
          (first
            | (go_at_call 47; (fail_if_success have := j2); refine (N2.out _ hs1.drew).mono ?_; rintro x wP ⟨rfl, rfl⟩; have j2 := True.intro)
            | (go_at_call 47; have := j2; (fail_if_success have := j4); refine (N4.out _ hs1.drew).mono ?_; rintro x wP ⟨rfl, rfl⟩; have j4 := True.intro)
            | (go_at_call 47; have := j4; refine (N8.out _ hs1.drew).mono ?_; rintro x wP ⟨rfl, rfl⟩)
            | (go_at_call 48; refine (SR.out _ hs1.drew).mono ?_; rintro x wR ⟨B, d, rfl, ho, hb⟩; have kR := Box.call (w := (w.alloc (.cells #[.bool false, .bool false, .bool false, .int .i64 0, .int .u16 0, .int .u32 0, .int .u32 0, .slice none 0 0] 26)).drew) k1 hb; have yR := kR.eight.1; have zR := kR.free8; have x0R := (hb.cell (p := ⟨b, o, none⟩) (by simp; omega)).trans d0; have x1R := (hb.cell (p := ⟨b, o + 1, none⟩) (by simp; omega)).trans d1))
        change Exit.then _ _ _ _ (put8 wR w.heap.size _ _ _ _ _ _ _ _)
        have kq := kR.put8 (.bool (bits .and .u8 (x0 : Int) 32 != 0)) (.bool (bits .and .u8 (x0 : Int) 16 != 0)) (.bool (bits .and .u8 (x1 : Int) 128 != 0)) (.int .i64 (IntKind.i64.wrap (bits .and .u8 (x1 : Int) 127))) (.int .u16 v2) (.int .u32 v4) (.int .u32 v8) (.slice B nn d)
        have hne2 : some w.heap.size ≠ rowOf B := fun e => by have := rowV_ge ho _ e.symm; simp at this; omega
        have hoq := rowV_put8 ho hne2 (.bool (bits .and .u8 (x0 : Int) 32 != 0)) (.bool (bits .and .u8 (x0 : Int) 16 != 0)) (.bool (bits .and .u8 (x1 : Int) 128 != 0)) (.int .i64 (IntKind.i64.wrap (bits .and .u8 (x1 : Int) 127))) (.int .u16 v2) (.int .u32 v4) (.int .u32 v8) (.slice B nn d)
        have hBq := below_put8 (hB.drew.trans (hb.mono hB.size)) (Nat.le_refl w.heap.size) (.bool (bits .and .u8 (x0 : Int) 32 != 0)) (.bool (bits .and .u8 (x0 : Int) 16 != 0)) (.bool (bits .and .u8 (x1 : Int) 128 != 0)) (.int .i64 (IntKind.i64.wrap (bits .and .u8 (x1 : Int) 127))) (.int .u16 v2) (.int .u32 v4) (.int .u32 v8) (.slice B nn d)
        have o1 := and32_bool x0 b0
        have o2 := and16_bool x0 b0
        have o3 := and128_bool x1 b1
        have o4 := and127_mod x1 b1
        rw [o1, o2, o3, o4] at kq hoq hBq
        rw [o1, o2, o3, o4]
        obtain ⟨⟨z0, z1, z2, z3, z4, z5, z6, z7⟩, _⟩ := kq.eight
        clear yR zR kR k1 x0R x1R d0 d1 c0 c1 o1 o2 o3 o4
        generalize put8 wR w.heap.size _ _ _ _ _ _ _ _ = wq at *
        have hcl : (hOf s).csrc = nums4 nn (s.drop 12) := by rw [Hof.out]
        have hln : (hOf s).csrc.length = nn := by rw [hcl, nums4_length]
        generalize decide (x0 / 32 % 2 = 1) = vp at *
        generalize decide (x0 / 16 % 2 = 1) = ve at *
        generalize decide (128 ≤ x1) = vm at *
        go_wp2_with fail
        refine bodyPost_ret (v := .tuple #[.agg #[.bool vp, .bool ve, .bool vm, .int .i64 ((x1 % 128 : Nat) : Int), .int .u16 v2, .int .u32 v4, .int .u32 v8, .slice B nn d], .int .i64 (12 + 4 * (nn : Int)), .int .i64 0]) (by simp [results, Try.results28, go_sem, *]) rfl ⟨B, d, ?_, ?_, hBq⟩
        · unfold hdV
          rw [hln, Hof.out]
          rfl
        · rw [hln, hcl]
          exact rowV_mono hoq (by simp)
    · rw [show hErr s = 3 from by unfold hErr; rw [if_neg (by omega), if_pos hv]]
      generalize g8 s 0 = x0 at *
      have hv2 : ((x0 : Int) / 64 != 2) = true := by rw [bne_iff_ne]; omega
      clear hsl hcell hv c1
      go_enter Try.func28, Try.ntmps28
      go_wp2_with fail
      exact bodyPost_ret (v := .tuple #[hdV zeroH none 0, .int .i64 ((0 : Nat) : Int), .int .i64 ((3 : Nat) : Int)]) (by simp [results, Try.results28, go_sem, hdV, zeroH]) rfl ⟨none, 0, rfl, World.ownsRow_nil _ _ _ _, below1 w _⟩

theorem head_calls : HeadCalls where
  right := fun p e m t q ti ss A n c l w hl hn _ _ => hright_any p e m t q ti ss A n c l w hl.len (by omega)
  size := fun p e m t q ti ss A n c l w hl hn _ _ => hsize_any p e m t q ti ss A n c l w hl.len hn
  write := fun p e m t q ti ss A n c l w hl _ hf _ => hwrite_any p e m t q ti ss A n c l w hl hf
  read := fun A l c s w hs hl => by
    refine (hread_any A l c s w hs (by omega)).mono ?_
    rintro e w' ⟨B, d, rfl, ho, hb⟩
    exact ⟨B, d, rfl, ho.us, hb⟩

end Go.Proofs.Ytbalpndgpdbcbaa
