/-
  What the functions of package head come to: sources, Write, Read; all of the contracts that layer 5 leans on.
-/
import Derived.Test.YtogjkkhboaflcaaHeadG
namespace Go.Proofs.Ytogjkkhboaflcaa
open Go.RowKit

def SrcI (w : World) (s : List UInt8) (n : Nat) (v i : Value) (W : World) : Prop :=
  ∃ (k : Nat) (B : Option Addr) (d : Nat), k ≤ n ∧ i = .int .i64 k ∧ v = .slice B k d ∧ OwnU W w.heap.size B k d (nums4 k (s.drop 12)) ∧ Below w.heap.size w W

set_option maxHeartbeats 1000000 in
theorem hsources_any (A : Option Addr) (l c : Nat) (s : List UInt8) (n : Nat) (w : World) (hs : Bs w A l c s) (hn : 12 + 4 * n ≤ l) (hn2 : n ≤ 15) :
    Calls Try.prog 32 #[.slice A l c, .int .i64 n] w fun e w' => ∃ B d, e = .returned (.slice B n d) ∧ OwnU w' w.heap.size B n d (nums4 n (s.drop 12)) ∧ Below w.heap.size w w' := by
  have hn4 := fun i => nums4_snoc i (s.drop 12)
  go_enter Try.func32, Try.ntmps32
  go_wp2_with fail
  go_loopw [5, 8] (fun v i W => SrcI w s n v i W) (fun _ i _ => n - (intOf i).toNat)
  case atStart => exact ⟨0, none, 0, Nat.zero_le _, rfl, rfl, World.ownsRow_nil _ _ _ _, Below.refl _ _⟩
  case round =>
    obtain ⟨k, B, d, hk, rfl, rfl, hown, hBk⟩ := hrel
    have hsw := hs.below hBk
    by_cases hkn : k < n
    · have hkn2 : (k : Int) < n := by omega
      have h8 := Lib.hid (hn4 k)
      have h9 : Hid (((s.drop 12).drop (4 * k)).take 4 = (s.drop (12 + 4 * k)).take 4) := Lib.hid (by rw [List.drop_drop])
      have Z := Lib.hid (fun W => hwith_any (k : Int) k W rfl (by omega))
      have NK := Lib.hid (fun W hs => hget_any A l c s (12 + 4 * (k : Int)) (12 + 4 * k) 4 4 W hs (by omega) (by omega) (by omega) (by omega) rfl)
      have hxl := num_lt4 s (12 + 4 * k)
      rw [h9.out] at h8
      generalize num ((s.drop (12 + 4 * k)).take 4) = x at *
      have hwx : IntKind.u32.wrap (x : Int) = (x : Int) := by rw [IntKind.wrap_u32]; omega
      clear hn4
      have hsz := hBk.size
      go_wp2_with fail
      refine (Z.out _).mono ?_
      rintro e w' ⟨rfl, rfl⟩
      go_wp2_with fail
      refine (NK.out _ hsw).mono ?_
      rintro e w' ⟨rfl, rfl⟩
      go_wp2_with (at_builtin; go_loud (refine wpList_appV rfl (.tmp 11) (.tmp 17) 41 rfl w.heap.size 40 (.int .u32 0) 4 Try.underlying41 info_u32 rfl B k d _ rfl (World.ownsRow.alloc hown _) _ 1 1 [.int .u32 x] rfl rfl (cell_one_new _ _ _) (by simp [Value.oneCell']) (by simp only [maxLen]; omega) (by omega) (by simp; omega) ?_; intro A9 c9 w2 hown2 hgrow hat))
      have e1 : OwnU w2 w.heap.size A9 (k + 1) c9 (nums4 (k + 1) (s.drop 12)) := by
        unfold OwnU
        rw [h8.out, List.map_append]
        exact hown2
      have hBg : Below w.heap.size w w2 := (hBk.alloc hBk.size (.cells #[.int .u32 x] 40)).grown hgrow (by simp; omega) (fun q hq => rowV_ge hown q hq)
      go_roundw
      case rel => exact ⟨k + 1, A9, c9, by omega, by go_num, rfl, e1, hBg⟩
      case measure => simp [intOf]; omega
    · obtain rfl : k = n := by omega
      have hkn2 : ¬ (k : Int) < k := by omega
      go_wp2
      go_ret
      exact ⟨B, d, rfl, hown, hBk⟩

/-- The slice value is a row of the call's own of slices of bytes. -/
def OwnP (w : World) (base : Nat) (A : Option Addr) (n c : Nat) (ps : List Part) : Prop := w.ownsRow base 22 1 (.slice A n c) n (ps.map Part.v) ∧ ∀ p ∈ ps, Bs w p.A p.n p.c p.s ∧ (0 < p.n → rowOf p.A ≠ rowOf A)
theorem OwnP.bss {w : World} {base n c : Nat} {A : Option Addr} {ps : List Part} (h : OwnP w base A n c ps) : Bss w A n c ps := ⟨Sl.of_own h.1, fun p hp => (h.2 p hp).1⟩
theorem Bs.row_lt {w : World} {n c : Nat} {A : Option Addr} {s : List UInt8} (h : Bs w A n c s) (hn : 0 < n) : ∃ b, rowOf A = some b ∧ b < w.heap.size := by
  obtain ⟨b, o, rfl, hlt, _⟩ := h.at_ hn
  exact ⟨b, rfl, hlt⟩
theorem OwnP.below {w w' : World} {base n c : Nat} {A : Option Addr} {ps : List Part} (h : OwnP w base A n c ps) (hb : Below w.heap.size w w') : OwnP w' base A n c ps := ⟨rowV_below h.1 hb, fun p hp => ⟨(h.2 p hp).1.below hb, (h.2 p hp).2⟩⟩
theorem info_bytes : (Try.prog.info? 22).map (fun i => (i.zero, i.size, i.bytes)) = some (some (.slice none 0 0), 1, 24) := by kernel_rfl
/-- Four parts that were just written out. -/
def Parts4 (w2 : World) (H : List UInt8) (v : Value) (W : World) : Prop :=
  ∃ (A : Option Addr) (c : Nat) (ps : List Part), v = .slice A 4 c ∧ ps.length = 4 ∧ OwnP W w2.heap.size A 4 c ps ∧ joined ps = H ∧ total ps = 12 ∧ Below w2.heap.size w2 W
theorem parts4 {w2 w : World} {A B C D : Option Addr} {n1 n2 n3 n4 c1 c2 c3 c4 : Nat} {s1 s2 s3 s4 : List UInt8} (hb : Below w2.heap.size w2 w) (h1 : Bs w A n1 c1 s1) (h2 : Bs w B n2 c2 s2) (h3 : Bs w C n3 c3 s3) (h4 : Bs w D n4 c4 s4) (hn : n1 + n2 + n3 + n4 = 12) :
    Parts4 w2 (s1 ++ s2 ++ s3 ++ s4) (.slice (some ⟨w.heap.size, 0, none⟩) 4 4) (w.alloc (.cells #[.slice A n1 c1, .slice B n2 c2, .slice C n3 c3, .slice D n4 c4] 22)) := by
  refine ⟨_, 4, [⟨A, n1, c1, s1⟩, ⟨B, n2, c2, s2⟩, ⟨C, n3, c3, s3⟩, ⟨D, n4, c4, s4⟩], rfl, rfl, ⟨?_, ?_⟩, by simp [joined], by simp [total]; omega, hb.alloc hb.size _⟩
  · exact World.ownsRow_lit (base := w2.heap.size) (e := 22) (size := 1) w #[.slice A n1 c1, .slice B n2 c2, .slice C n3 c3, .slice D n4 c4] 4 hb.size (by simp [maxLen]) rfl
  · intro p hp
    simp only [List.mem_cons, List.not_mem_nil, or_false] at hp
    have far : ∀ {A : Option Addr} {n c : Nat} {s : List UInt8}, Bs w A n c s → 0 < n → rowOf A ≠ rowOf (some ⟨w.heap.size, 0, none⟩) := by
      intro A n c s h hn e
      obtain ⟨b, e1, e2⟩ := h.row_lt hn
      rw [e1] at e
      injection e with e
      simp at e
      omega
    rcases hp with rfl | rfl | rfl | rfl
    · exact ⟨h1.alloc _, far h1⟩
    · exact ⟨h2.alloc _, far h2⟩
    · exact ⟨h3.alloc _, far h3⟩
    · exact ⟨h4.alloc _, far h4⟩
theorem OwnP.grown {w w' : World} {base n c : Nat} {A B : Option Addr} {ps : List Part} {d m : Nat} {x : Part} (h : OwnP w base A n c ps) (hg : w.grownBy w' (rowOf A)) (hat : rowOf B = rowOf A ∨ rowOf B = some w.heap.size) (hr : w'.ownsRow base 22 1 (.slice B m d) m (ps.map Part.v ++ [x.v])) (hx : Bs w x.A x.n x.c x.s) (hxA : 0 < x.n → rowOf x.A ≠ rowOf A) : OwnP w' base B m d (ps ++ [x]) := by
  refine ⟨by rw [List.map_append]; exact hr, fun p hp => ?_⟩
  have hp2 : Bs w p.A p.n p.c p.s ∧ (0 < p.n → rowOf p.A ≠ rowOf A) := by
    rw [List.mem_append, List.mem_singleton] at hp
    rcases hp with hp | rfl
    · exact h.2 p hp
    · exact ⟨hx, hxA⟩
  refine ⟨hp2.1.grown hg hp2.2, fun hn => ?_⟩
  rcases hat with e | e
  · rw [e]; exact hp2.2 hn
  · rw [e]
    obtain ⟨b, e1, e2⟩ := hp2.1.row_lt hn
    rw [e1]
    intro e3
    injection e3 with e3
    omega
theorem bs_pair (w : World) (F S : Nat) (hF : F < 256) (hS : S < 256) : Bs (w.alloc (.cells #[.int .u8 (F : Int), .int .u8 (S : Int)] 5)) (some ⟨w.heap.size, 0, none⟩) 2 2 [UInt8.ofNat F, UInt8.ofNat S] := by
  have := Sl.lit w [.int .u8 (F : Int), .int .u8 (S : Int)] 5 (by simp [maxLen])
  unfold Bs
  simp only [List.map_cons, List.map_nil, byteV, toNat_ofNat hF, toNat_ofNat hS]
  exact this

def WrI (w : World) (l : List Nat) (H : List UInt8) (bx : List Value) (B i : Value) (W : World) : Prop :=
  ∃ (k : Nat) (A : Option Addr) (c : Nat) (ps : List Part), k ≤ l.length ∧ i = .int .i64 k ∧ B = .slice A (4 + k) c ∧ Box W w.heap.size bx ∧ Below w.heap.size w W ∧ ps.length = 4 + k ∧ OwnP W (w.heap.size + 1) A (4 + k) c ps ∧ joined ps = H ++ be4s (l.take k) ∧ total ps = 12 + 4 * k

set_option maxRecDepth 100000 in
theorem and32_bool (x : Nat) (h : x < 256) : (bits .and .u8 (x : Int) 32 != 0) = decide (x / 32 % 2 = 1) := by
  have k : ∀ y : Fin 256, ((y.val &&& 32) != 0) = decide (y.val / 32 % 2 = 1) := by decide
  have kk := k ⟨x, h⟩
  simp only at kk
  rw [show (32 : Int) = ((32 : Nat) : Int) from rfl, u8_and_nat _ _ h (by omega), ← kk]
  rw [Bool.eq_iff_iff, bne_iff_ne, bne_iff_ne]
  omega
set_option maxRecDepth 100000 in
theorem and16_bool (x : Nat) (h : x < 256) : (bits .and .u8 (x : Int) 16 != 0) = decide (x / 16 % 2 = 1) := by
  have k : ∀ y : Fin 256, ((y.val &&& 16) != 0) = decide (y.val / 16 % 2 = 1) := by decide
  have kk := k ⟨x, h⟩
  simp only at kk
  rw [show (16 : Int) = ((16 : Nat) : Int) from rfl, u8_and_nat _ _ h (by omega), ← kk]
  rw [Bool.eq_iff_iff, bne_iff_ne, bne_iff_ne]
  omega
set_option maxRecDepth 100000 in
theorem and128_bool (x : Nat) (h : x < 256) : (bits .and .u8 (x : Int) 128 != 0) = decide (128 ≤ x) := by
  have k : ∀ y : Fin 256, ((y.val &&& 128) != 0) = decide (128 ≤ y.val) := by decide
  have kk := k ⟨x, h⟩
  simp only at kk
  rw [show (128 : Int) = ((128 : Nat) : Int) from rfl, u8_and_nat _ _ h (by omega), ← kk]
  rw [Bool.eq_iff_iff, bne_iff_ne, bne_iff_ne]
  omega
theorem and127_mod (x : Nat) (h : x < 256) : IntKind.i64.wrap (bits .and .u8 (x : Int) 127) = ((x % 128 : Nat) : Int) := by
  rw [show (127 : Int) = ((127 : Nat) : Int) from rfl, u8_and_nat _ _ h (by omega), show x &&& 127 = x % 128 from Nat.and_two_pow_sub_one_eq_mod x 7]
  exact IntWalk.i64_in _ (by omega)

set_option maxRecDepth 100000 in
set_option maxHeartbeats 4000000 in
theorem hread_any (A : Option Addr) (l c : Nat) (s : List UInt8) (w : World) (hs : Bs w A l c s) (hl : l ≤ 140737488355328) :
    Calls Try.prog 20 #[.slice A l c] w (GivesHO w (readH s) (readN s) (hErr s)) := by
  have hsl := hs.len
  unfold readH readN
  by_cases h12 : l < 12
  · rw [show hErr s = 2 from if_pos (by omega)]
    clear hsl
    go_enter Try.func20, Try.ntmps20
    go_wp2_with fail
    exact bodyPost_ret (v := .tuple #[hdV zeroH none 0, .int .i64 ((0 : Nat) : Int), .int .i64 ((2 : Nat) : Int)]) (by simp [results, Try.results20, go_sem, hdV, zeroH]) rfl ⟨none, 0, rfl, World.ownsRow_nil _ _ _ _, below1 w _⟩
  · obtain ⟨b, o, rfl, hlt, hcell⟩ := g8_at hs (by omega)
    have c0 := hcell 0 (by omega)
    have c1 := hcell 1 (by omega)
    have b0 := g8_lt s 0
    have b1 := g8_lt s 1
    rw [Nat.add_zero] at c0
    by_cases hv : g8 s 0 / 64 = 2
    · by_cases hfew : l < 12 + 4 * (g8 s 0 % 16)
      · rw [show hErr s = 2 from by unfold hErr; rw [if_neg (by omega), if_neg (by omega), if_pos (by omega)]]
        obtain ⟨nn, hnn⟩ : ∃ nn, nn = g8 s 0 % 16 := ⟨_, rfl⟩
        have Z := Lib.hid (fun k w h => hwith_any k nn w h (by omega))
        have hfew2 : (l : Int) < 12 + 4 * (nn : Int) := by omega
        rw [← hnn] at hfew
        generalize g8 s 0 = x0 at *
        have hv2 : ((x0 : Int) / 64 != 2) = false := by rw [bne_eq_false_iff_eq]; omega
        have hx : (x0 : Int) % 16 = (nn : Int) := by omega
        clear hsl hcell hv hnn hfew
        go_enter Try.func20, Try.ntmps20
        go_wp2_with fail
        refine (Z.out _ _ rfl).mono ?_
        rintro x w2 ⟨rfl, rfl⟩
        go_wp2_with fail
        exact bodyPost_ret (v := .tuple #[hdV zeroH none 0, .int .i64 ((0 : Nat) : Int), .int .i64 ((2 : Nat) : Int)]) (by simp [results, Try.results20, go_sem, hdV, zeroH]) rfl ⟨none, 0, rfl, World.ownsRow_nil _ _ _ _, below1 w _⟩
      · have he : hErr s = 0 := by unfold hErr; rw [if_neg (by omega), if_neg (by omega), if_neg (by omega)]
        rw [he, if_pos rfl, if_pos rfl]
        have hof : hOf s = ⟨decide (g8 s 0 / 32 % 2 = 1), decide (g8 s 0 / 16 % 2 = 1), decide (128 ≤ g8 s 1), ((g8 s 1 % 128 : Nat) : Int), num ((s.drop 2).take 2), num ((s.drop 4).take 4), num ((s.drop 8).take 4), nums4 (g8 s 0 % 16) (s.drop 12)⟩ := rfl
        have N2 := Lib.hid (fun W hs => hget_any (some ⟨b, o, none⟩) l c s 2 2 2 2 W hs rfl (by omega) (by omega) (by omega) rfl)
        have N4 := Lib.hid (fun W hs => hget_any (some ⟨b, o, none⟩) l c s 4 4 4 4 W hs rfl (by omega) (by omega) (by omega) rfl)
        have N8 := Lib.hid (fun W hs => hget_any (some ⟨b, o, none⟩) l c s 8 8 4 4 W hs rfl (by omega) (by omega) (by omega) rfl)
        have q2 := num_lt2 s 2
        have q4 := num_lt4 s 4
        have q8 := num_lt4 s 8
        clear he
        generalize num ((s.drop 2).take 2) = v2 at *
        generalize num ((s.drop 4).take 4) = v4 at *
        generalize num ((s.drop 8).take 4) = v8 at *
        obtain ⟨nn, hnn⟩ : ∃ nn, nn = g8 s 0 % 16 := ⟨_, rfl⟩
        have Z := Lib.hid (fun k w h => hwith_any k nn w h (by omega))
        have SR := Lib.hid (fun W hs => hsources_any (some ⟨b, o, none⟩) l c s nn W hs (by omega) (by omega))
        have hfew2 : ¬ ((l : Int) < 12 + 4 * (nn : Int)) := by omega
        rw [← hnn] at hof ⊢
        have Hof := Lib.hid hof
        clear hof
        have hx : (g8 s 0 : Int) % 16 = (nn : Int) := by omega
        have hv2 : ((g8 s 0 : Int) / 64 != 2) = false := by rw [bne_eq_false_iff_eq]; omega
        have w2 : IntKind.u16.wrap (v2 : Int) = (v2 : Int) := by rw [IntKind.wrap_u16]; omega
        have w4 : IntKind.u32.wrap (v4 : Int) = (v4 : Int) := by rw [IntKind.wrap_u32]; omega
        have w8 : IntKind.u32.wrap (v8 : Int) = (v8 : Int) := by rw [IntKind.wrap_u32]; omega
        generalize g8 s 0 = x0 at *
        generalize g8 s 1 = x1 at *
        clear hsl hcell hv hnn hfew q2 q4 q8
        go_enter Try.func20, Try.ntmps20
        go_wp2_with fail
        refine (Z.out _ _ rfl).mono ?_
        rintro x wz ⟨rfl, rfl⟩
        have k1 := Box.new w [.bool false, .bool false, .bool false, .int .i64 0, .int .u16 0, .int .u32 0, .int .u32 0, .slice none 0 0] 43
        have hs1 := hs.alloc (.cells #[.bool false, .bool false, .bool false, .int .i64 0, .int .u16 0, .int .u32 0, .int .u32 0, .slice none 0 0] 43)
        have hB := below1 w (.cells #[.bool false, .bool false, .bool false, .int .i64 0, .int .u16 0, .int .u32 0, .int .u32 0, .slice none 0 0] 43)
        have hne : w.heap.size ≠ b := by omega
        have i0 : 0 < l := by omega
        have i1 : (1 : Int) < (l : Int) := by omega
        have d0 : (w.alloc (.cells #[.bool false, .bool false, .bool false, .int .i64 0, .int .u16 0, .int .u32 0, .int .u32 0, .slice none 0 0] 43)).drew.cell? ⟨b, o, none⟩ = some (.int .u8 (x0 : Int)) := (World.cell?_alloc_lt w _ ⟨b, o, none⟩ hlt).trans c0
        have d1 : (w.alloc (.cells #[.bool false, .bool false, .bool false, .int .i64 0, .int .u16 0, .int .u32 0, .int .u32 0, .slice none 0 0] 43)).drew.cell? ⟨b, o + 1, none⟩ = some (.int .u8 (x1 : Int)) := (World.cell?_alloc_lt w _ ⟨b, o + 1, none⟩ hlt).trans c1
        go_wp2_with fail
        go_region_held3 (fun W => W.cell? ⟨b, o, none⟩ = some (.int .u8 (x0 : Int)) ∧ W.cell? ⟨b, o + 1, none⟩ = some (.int .u8 (x1 : Int)))
          (go_keep)
          (first
            | (go_at_call 31; (fail_if_success have := j2); refine (N2.out _ hs1.drew).mono ?_; rintro x wP ⟨rfl, rfl⟩; have j2 := True.intro)
            | (go_at_call 31; have := j2; (fail_if_success have := j4); refine (N4.out _ hs1.drew).mono ?_; rintro x wP ⟨rfl, rfl⟩; have j4 := True.intro)
            | (go_at_call 31; have := j4; refine (N8.out _ hs1.drew).mono ?_; rintro x wP ⟨rfl, rfl⟩)
            | (go_at_call 32; refine (SR.out _ hs1.drew).mono ?_; rintro x wR ⟨B, d, rfl, ho, hb⟩; have kR := Box.call (w := (w.alloc (.cells #[.bool false, .bool false, .bool false, .int .i64 0, .int .u16 0, .int .u32 0, .int .u32 0, .slice none 0 0] 43)).drew) k1 hb; have yR := kR.eight.1; have zR := kR.free8; have x0R := (hb.cell (p := ⟨b, o, none⟩) (by simp; omega)).trans d0; have x1R := (hb.cell (p := ⟨b, o + 1, none⟩) (by simp; omega)).trans d1))
        change Exit.then _ _ _ _ (put8 wR w.heap.size _ _ _ _ _ _ _ _)
        have kq := kR.put8 (.bool (bits .and .u8 (x0 : Int) 32 != 0)) (.bool (bits .and .u8 (x0 : Int) 16 != 0)) (.bool (bits .and .u8 (x1 : Int) 128 != 0)) (.int .i64 (IntKind.i64.wrap (bits .and .u8 (x1 : Int) 127))) (.int .u16 v2) (.int .u32 v4) (.int .u32 v8) (.slice B nn d)
        have hne2 : some w.heap.size ≠ rowOf B := fun e => by have := rowV_ge ho _ e.symm; simp at this; omega
        have hoq := rowV_put8 ho hne2 (.bool (bits .and .u8 (x0 : Int) 32 != 0)) (.bool (bits .and .u8 (x0 : Int) 16 != 0)) (.bool (bits .and .u8 (x1 : Int) 128 != 0)) (.int .i64 (IntKind.i64.wrap (bits .and .u8 (x1 : Int) 127))) (.int .u16 v2) (.int .u32 v4) (.int .u32 v8) (.slice B nn d)
        have hBq := below_put8 (hB.drew.trans (hb.mono hB.size)) (Nat.le_refl w.heap.size) (.bool (bits .and .u8 (x0 : Int) 32 != 0)) (.bool (bits .and .u8 (x0 : Int) 16 != 0)) (.bool (bits .and .u8 (x1 : Int) 128 != 0)) (.int .i64 (IntKind.i64.wrap (bits .and .u8 (x1 : Int) 127))) (.int .u16 v2) (.int .u32 v4) (.int .u32 v8) (.slice B nn d)
        have o1 := and32_bool x0 b0
        have o2 := and16_bool x0 b0
        have o3 := and128_bool x1 b1
        have o4 := and127_mod x1 b1
        rw [o1, o2, o3, o4] at kq hoq hBq
        rw [o1, o2, o3, o4]
        obtain ⟨⟨z0, z1, z2, z3, z4, z5, z6, z7⟩, _⟩ := kq.eight
        clear yR zR kR k1 x0R x1R d0 d1 c0 c1 o1 o2 o3 o4
        generalize put8 wR w.heap.size _ _ _ _ _ _ _ _ = wq at *
        have hcl : (hOf s).csrc = nums4 nn (s.drop 12) := by rw [Hof.out]
        have hln : (hOf s).csrc.length = nn := by rw [hcl, nums4_length]
        generalize decide (x0 / 32 % 2 = 1) = vp at *
        generalize decide (x0 / 16 % 2 = 1) = ve at *
        generalize decide (128 ≤ x1) = vm at *
        go_wp2_with fail
        refine bodyPost_ret (v := .tuple #[.agg #[.bool vp, .bool ve, .bool vm, .int .i64 ((x1 % 128 : Nat) : Int), .int .u16 v2, .int .u32 v4, .int .u32 v8, .slice B nn d], .int .i64 (12 + 4 * (nn : Int)), .int .i64 0]) (by simp [results, Try.results20, go_sem, *]) rfl ⟨B, d, ?_, ?_, hBq⟩
        · unfold hdV
          rw [hln, Hof.out]
          rfl
        · rw [hln, hcl]
          exact rowV_mono hoq (by simp)
    · rw [show hErr s = 3 from by unfold hErr; rw [if_neg (by omega), if_pos hv]]
      generalize g8 s 0 = x0 at *
      have hv2 : ((x0 : Int) / 64 != 2) = true := by rw [bne_iff_ne]; omega
      clear hsl hcell hv c1
      go_enter Try.func20, Try.ntmps20
      go_wp2_with fail
      exact bodyPost_ret (v := .tuple #[hdV zeroH none 0, .int .i64 ((0 : Nat) : Int), .int .i64 ((3 : Nat) : Int)]) (by simp [results, Try.results20, go_sem, hdV, zeroH]) rfl ⟨none, 0, rfl, World.ownsRow_nil _ _ _ _, below1 w _⟩

end Go.Proofs.Ytogjkkhboaflcaa
