/-
  What the document's own answers for layer 7 come to: Of. (Written by gen_PlaceO.py.)
-/
import Derived.Test.YtogjkkhboaflcaaPlaceF
import Derived.Test.YtogjkkhboaflcaaPlaceP
import Derived.Test.YtogjkkhboaflcaaPackR6
import Derived.Test.YtogjkkhboaflcaaBase
namespace Go.Proofs.Ytogjkkhboaflcaa
open Go.RowKit
set_option linter.unusedVariables false
set_option linter.unusedSimpArgs false

/-- What a call hands back: places, and the number of an error. -/
def GivesPl (w : World) (l : List Pl) (err : Nat) (x : Ending) (w' : World) : Prop :=
  ∃ A m c, x = .returned (.tuple #[.slice A m c, .int .i64 err]) ∧ Pls w' A m c l ∧ Below w.heap.size w w'

theorem rof_no (A : Option Addr) (l c : Nat) (s : List UInt8) (w : World) (hs : Bs w A l c s) (hl : l ≤ 140737488355328) (h : pErr s ≠ 0) :
    Calls Try.prog 8 #[.slice A l c] w (GivesPl w [] (pErr s)) := by
  have HR := Lib.hid (fun W hs => rpread_any A l c s W hs hl)
  have hz : ((pErr s : Int) != 0) = true := by rw [bne_iff_ne]; omega
  generalize pErr s = er at *
  clear h
  go_enter Try.func8, Try.ntmps8
  go_wp2_with fail
  refine (HR.out _ hs).mono ?_
  rintro x w2 ⟨A1, c1, B1, cb1, C1, cc1, rfl, hin, hb⟩
  dsimp only [pkV] at hin ⊢
  go_wp2_with fail
  go_ret2
  exact ⟨none, 0, 0, rfl, Pls.nil _, hb.alloc hb.size _⟩

def OfI (w2 : World) (bx : List Value) (N : Nat) (v a i : Value) (W : World) : Prop :=
  ∃ (j m : Nat) (B : Option Addr) (d : Nat), j ≤ N ∧ m = 5 + j ∧ i = .int .i64 j ∧ a = .int .i64 (12 + 4 * (j : Int)) ∧ v = .slice B m d ∧ OwnPl W (w2.heap.size + 1) B m d (basePl ++ csrcPl j) ∧ Box W w2.heap.size bx ∧ Below w2.heap.size w2 W
def OfC (w2 : World) (bx : List Value) (M : Nat) (L : List Pl) (z : Int) (v a : Value) (W : World) : Prop :=
  ∃ (m : Nat) (B : Option Addr) (d : Nat), m ≤ M ∧ v = .slice B m d ∧ a = .int .i64 z ∧ OwnPl W (w2.heap.size + 1) B m d L ∧ Box W w2.heap.size bx ∧ Below w2.heap.size w2 W
theorem OwnPl.app {w : World} {base m c : Nat} {A : Option Addr} {l : List Pl} {p : Pl} (h : w.ownsRow base 32 3 (.slice A m c) m (l.flatMap plC ++ plC p)) : OwnPl w base A m c (l ++ [p]) := by
  unfold OwnPl
  rw [List.flatMap_append, List.flatMap_cons, List.flatMap_nil, List.append_nil]
  exact h
theorem OwnPl.app2 {w : World} {base m c : Nat} {A : Option Addr} {l : List Pl} {p q : Pl} (h : w.ownsRow base 32 3 (.slice A m c) m (l.flatMap plC ++ (plC p ++ plC q))) : OwnPl w base A m c (l ++ [p, q]) := by
  unfold OwnPl
  rw [List.flatMap_append, List.flatMap_cons, List.flatMap_cons, List.flatMap_nil, List.append_nil]
  exact h
theorem plC_one2 (p q : Pl) : ∀ u ∈ plC p ++ plC q, u.oneCell' = true := by
  intro u hu
  rw [List.mem_append] at hu
  rcases hu with h | h
  · exact plC_one1 p u h
  · exact plC_one1 q u h

set_option maxRecDepth 100000 in
set_option maxHeartbeats 4000000 in
theorem rof_yes (A : Option Addr) (l c : Nat) (s : List UInt8) (w : World) (hs : Bs w A l c s) (hl : l ≤ 65535) (h : pErr s = 0) :
    Calls Try.prog 8 #[.slice A l c] w (GivesPl w (placesP (packOf s) s.length) 0) := by
  have HR := Lib.hid (fun W hs => rpread_any A l c s W hs (by omega))
  have hb := packOf_size h
  have hpr := packOf_right h
  have hcl : (packOf s).hd.csrc.length < 16 := by
    have q := (rightP_parts hpr.1).1
    unfold rightH at q
    rw [decide_eq_true_eq] at q
    exact q.2.2
  have hkb : 0 ≤ (packOf s).pad ∧ (packOf s).pad ≤ 255 := by
    obtain ⟨_, _, _, _, _, q6, q7, _⟩ := rightP_parts hpr.1
    cases hq : (packOf s).hd.pad
    · rw [q7 hq]; omega
    · have := q6 hq; omega
  have hel : (packOf s).ext.length ≤ 262140 ∧ (packOf s).pay.length ≤ 65535 := by
    obtain ⟨_, q2, q3, _⟩ := rightP_parts hpr.1
    exact ⟨q3, q2⟩
  have hl1 : 1 ≤ l := by
    have := (readH_right (pErr_zero h).2.1).2.2.2
    rw [hs.len] at this
    omega
  rw [readP_of h, h] at HR
  rw [hs.len]
  clear h hb hpr
  generalize packOf s = p at *
  obtain ⟨⟨pd, ex, mk, t, q, ti, ss, lst⟩, pr, E, r, k⟩ := p
  unfold placesP
  simp only at HR hcl hkb hel ⊢
  obtain ⟨hk0, hk1⟩ := hkb
  obtain ⟨he0, hy0⟩ := hel
  obtain ⟨n, hn⟩ : ∃ n, lst.length = n := ⟨_, rfl⟩
  obtain ⟨e, he⟩ : ∃ e, E.length = e := ⟨_, rfl⟩
  obtain ⟨y, hy⟩ : ∃ y, r.length = y := ⟨_, rfl⟩
  rw [hn] at hcl
  rw [he] at he0
  rw [hy] at hy0
  rw [hn, he, hy]
  obtain ⟨Z, hZ⟩ : ∃ Z, basePl ++ (csrcPl n ++ (extPl ex n e ++ (payPl (atX ex n e) y ++ (fillPl (atX ex n e + y) k ++ countPl l k)))) = Z := ⟨_, rfl⟩
  rw [hZ]
  have HZ := Lib.hid hZ
  have HN := Lib.hid (And.intro hn (And.intro he hy))
  clear hZ hn he hy
  go_enter Try.func8, Try.ntmps8
  go_wp2_with fail
  refine (HR.out _ hs).mono ?_
  rintro x w2 ⟨A1, c1, B1, cb1, C1, cc1, rfl, hin, hb⟩
  dsimp only [pkV] at hin ⊢
  rw [HN.out.1, HN.out.2.1, HN.out.2.2]
  clear hin HN HR
  obtain ⟨bx, hbx⟩ : ∃ bx : List Value, bx = [.bool pd, .bool ex, .bool mk, .int .i64 t, .int .u16 q, .int .u32 ti, .int .u32 ss, .slice A1 n c1, .int .u16 pr, .slice B1 e cb1, .slice C1 y cc1, .int .i64 k] := ⟨_, rfl⟩
  have k1 := Box.new w2 [.bool pd, .bool ex, .bool mk, .int .i64 t, .int .u16 q, .int .u32 ti, .int .u32 ss, .slice A1 n c1, .int .u16 pr, .slice B1 e cb1, .slice C1 y cc1, .int .i64 k] 45
  have f7 := (k1.alloc (.cells #[.int .i64 1, .int .i64 0, .int .i64 1, .int .i64 2, .int .i64 1, .int .i64 1, .int .i64 3, .int .i64 2, .int .i64 2, .int .i64 4, .int .i64 4, .int .i64 4, .int .i64 5, .int .i64 8, .int .i64 4] 32)).field 7 rfl
  have hown : OwnPl ((w2.alloc (.cells #[.bool pd, .bool ex, .bool mk, .int .i64 t, .int .u16 q, .int .u32 ti, .int .u32 ss, .slice A1 n c1, .int .u16 pr, .slice B1 e cb1, .slice C1 y cc1, .int .i64 k] 45)).alloc (.cells #[.int .i64 1, .int .i64 0, .int .i64 1, .int .i64 2, .int .i64 1, .int .i64 1, .int .i64 3, .int .i64 2, .int .i64 2, .int .i64 4, .int .i64 4, .int .i64 4, .int .i64 5, .int .i64 8, .int .i64 4] 32)) (w2.heap.size + 1) (some ⟨w2.heap.size + 1, 0, none⟩) 5 5 (basePl ++ csrcPl 0) := by
    have := rowK_lit (k := 3) (base := w2.heap.size + 1) (e := 32) (w2.alloc (.cells #[.bool pd, .bool ex, .bool mk, .int .i64 t, .int .u16 q, .int .u32 ti, .int .u32 ss, .slice A1 n c1, .int .u16 pr, .slice B1 e cb1, .slice C1 y cc1, .int .i64 k] 45)) #[.int .i64 1, .int .i64 0, .int .i64 1, .int .i64 2, .int .i64 1, .int .i64 1, .int .i64 3, .int .i64 2, .int .i64 2, .int .i64 4, .int .i64 4, .int .i64 4, .int .i64 5, .int .i64 8, .int .i64 4] 5 (by simp) (by simp [maxLen]) rfl
    rwa [World.size_alloc] at this
  replace k1 := k1.alloc (.cells #[.int .i64 1, .int .i64 0, .int .i64 1, .int .i64 2, .int .i64 1, .int .i64 1, .int .i64 3, .int .i64 2, .int .i64 2, .int .i64 4, .int .i64 4, .int .i64 4, .int .i64 5, .int .i64 8, .int .i64 4] 32)
  have hB := below2 w2 (.cells #[.bool pd, .bool ex, .bool mk, .int .i64 t, .int .u16 q, .int .u32 ti, .int .u32 ss, .slice A1 n c1, .int .u16 pr, .slice B1 e cb1, .slice C1 y cc1, .int .i64 k] 45) (.cells #[.int .i64 1, .int .i64 0, .int .i64 1, .int .i64 2, .int .i64 1, .int .i64 1, .int .i64 3, .int .i64 2, .int .i64 2, .int .i64 4, .int .i64 4, .int .i64 4, .int .i64 5, .int .i64 8, .int .i64 4] 32)
  have kx : Box ((w2.alloc (.cells #[.bool pd, .bool ex, .bool mk, .int .i64 t, .int .u16 q, .int .u32 ti, .int .u32 ss, .slice A1 n c1, .int .u16 pr, .slice B1 e cb1, .slice C1 y cc1, .int .i64 k] 45)).alloc (.cells #[.int .i64 1, .int .i64 0, .int .i64 1, .int .i64 2, .int .i64 1, .int .i64 1, .int .i64 3, .int .i64 2, .int .i64 2, .int .i64 4, .int .i64 4, .int .i64 4, .int .i64 5, .int .i64 8, .int .i64 4] 32)) w2.heap.size bx := by rw [hbx]; exact k1
  clear k1
  have k1 := kx
  clear kx
  have g1 : bx[1]? = some (.bool ex) := by rw [hbx]; rfl
  have g7 : bx[7]? = some (.slice A1 n c1) := by rw [hbx]; rfl
  have g9 : bx[9]? = some (.slice B1 e cb1) := by rw [hbx]; rfl
  have g10 : bx[10]? = some (.slice C1 y cc1) := by rw [hbx]; rfl
  have g11 : bx[11]? = some (.int .i64 k) := by rw [hbx]; rfl
  clear hbx
  go_wp2_with fail
  clear f7
  go_loopw [6, 7, 8] (fun v a i W => OfI w2 bx n v a i W) (fun _ _ i _ => n - (intOf i).toNat)
  case atStart => exact ⟨0, 5, _, 5, Nat.zero_le _, rfl, rfl, rfl, rfl, hown, k1, hB⟩
  case round =>
    clear k1 hB hown
    obtain ⟨j, m, B, d, hj, hm, rfl, rfl, rfl, hown, kb, hBj⟩ := hrel
    have f7 := kb.field 7 g7
    have hsz := hBj.size
    have hks := kb.2.2
    by_cases hjn : j < n
    · have hjn2 : (j : Int) < n := by omega
      have hml : m ≤ 21 := by omega
      have hm1 := Lib.hid hm
      clear hm
      have hs1 := Lib.hid (csrcPl_succ j)
      go_wp2_with (at_builtin; go_loud (refine wpList_appK rfl (.tmp 31) (.tmp 34) 23 rfl (w2.heap.size + 1) 32 _ 3 24 Try.underlying23 info_pl rfl (by omega) B m d _ rfl (rowK_alloc hown _) _ 1 1 (plC ⟨6, 12 + 4 * (j : Int), 4⟩) rfl rfl (new1 _ ⟨6, 12 + 4 * (j : Int), 4⟩ _) (plC_one1 _) (by simp only [maxLen]; omega) (by omega) (by simp; omega) ?_; intro A9 c9 w9 hown9 hgrow hat))
      have hgo : OwnPl w9 (w2.heap.size + 1) A9 (m + 1) c9 (basePl ++ csrcPl (j + 1)) := by
        rw [hs1.out, ← List.append_assoc]
        exact OwnPl.app hown9
      have hfar0 : some w2.heap.size ≠ rowOf B := fun e => by have := rowV_ge hown _ e.symm; omega
      have hBg : Below w2.heap.size w2 w9 := (hBj.alloc hsz (.cells #[.int .i64 6, .int .i64 (12 + 4 * (j : Int)), .int .i64 4] 32)).grown hgrow (by simp; omega) (fun q hq => by have := rowV_ge hown q hq; omega)
      have kg := (kb.alloc (.cells #[.int .i64 6, .int .i64 (12 + 4 * (j : Int)), .int .i64 4] 32)).grown hgrow hfar0
      go_roundw
      case rel =>
        (repeat apply Exists.intro)
        exact ⟨⟨j + 1, m + 1, A9, c9, by omega, by rw [hm1.out]; omega, by go_num, by go_num, rfl, hgo, kg, hBg⟩, rfl⟩
      case measure => simp [intOf]; omega
    · obtain rfl : j = n := by omega
      have hjn2 : ¬ (j : Int) < j := by omega
      have hml : m ≤ 21 := by omega
      have f1 := kb.field 1 g1
      clear hm hj hjn
      go_upto_if 40 with fail
      clear f7
      go_cut [6, 7] (fun v a W => OfC w2 bx 25 ((basePl ++ csrcPl j) ++ extPl ex j e) (atX ex j e) v a W)
      case first =>
        cases ex with
        | false =>
          go_wp2_with fail
          go_meet
          exact ⟨m, B, d, by omega, rfl, by simp [atX], by simpa [extPl] using hown, kb, hBj⟩
        | true =>
          rcases Nat.eq_zero_or_pos e with h0 | h0
          · subst h0
            go_wp2_with (at_builtin; go_loud (refine wpList_appK rfl (.tmp 41) (.tmp 47) 23 rfl (w2.heap.size + 1) 32 _ 3 24 Try.underlying23 info_pl rfl (by omega) B m d _ rfl (rowK_alloc hown _) _ 2 2 (plC ⟨7, 12 + 4 * (j : Int), 2⟩ ++ plC ⟨8, 12 + 4 * (j : Int) + 2, 2⟩) rfl rfl (new2 _ ⟨7, 12 + 4 * (j : Int), 2⟩ ⟨8, 12 + 4 * (j : Int) + 2, 2⟩ _) (plC_one2 _ _) (by simp only [maxLen]; omega) (by omega) (by simp; omega) ?_; intro A9 c9 w9 hown9 hgrow hat; have hfar0 : some w2.heap.size ≠ rowOf B := (fun e => by have := rowV_ge hown _ e.symm; omega); have hBg : Below w2.heap.size w2 w9 := (hBj.alloc hBj.size (.cells #[.int .i64 7, .int .i64 (12 + 4 * (j : Int)), .int .i64 2, .int .i64 8, .int .i64 (12 + 4 * (j : Int) + 2), .int .i64 2] 32)).grown hgrow (by simp; have := hBj.size; omega) (fun q hq => by have := rowV_ge hown q hq; omega); have kg := (kb.alloc (.cells #[.int .i64 7, .int .i64 (12 + 4 * (j : Int)), .int .i64 2, .int .i64 8, .int .i64 (12 + 4 * (j : Int) + 2), .int .i64 2] 32)).grown hgrow hfar0; have f9 := kg.field 9 g9; have hgo := OwnPl.app2 hown9))
            go_meet
            exact ⟨m + 2, A9, c9, by omega, rfl, by simp [atX] <;> omega, by simpa [extPl] using hgo, kg, hBg⟩
          · have h1 : (0 : Int) < e := by omega
            go_wp2_with (at_builtin; first
              | (refine wpList_appK rfl (.tmp 41) (.tmp 47) 23 rfl (w2.heap.size + 1) 32 _ 3 24 Try.underlying23 info_pl rfl (by omega) B m d _ rfl (rowK_alloc hown _) _ 2 2 (plC ⟨7, 12 + 4 * (j : Int), 2⟩ ++ plC ⟨8, 12 + 4 * (j : Int) + 2, 2⟩) rfl rfl (new2 _ ⟨7, 12 + 4 * (j : Int), 2⟩ ⟨8, 12 + 4 * (j : Int) + 2, 2⟩ _) (plC_one2 _ _) (by simp only [maxLen]; omega) (by omega) (by simp; omega) ?_; intro A9 c9 w9 hown9 hgrow hat; have hfar0 : some w2.heap.size ≠ rowOf B := (fun e => by have := rowV_ge hown _ e.symm; omega); have hBg : Below w2.heap.size w2 w9 := (hBj.alloc hBj.size (.cells #[.int .i64 7, .int .i64 (12 + 4 * (j : Int)), .int .i64 2, .int .i64 8, .int .i64 (12 + 4 * (j : Int) + 2), .int .i64 2] 32)).grown hgrow (by simp; have := hBj.size; omega) (fun q hq => by have := rowV_ge hown q hq; omega); have kg := (kb.alloc (.cells #[.int .i64 7, .int .i64 (12 + 4 * (j : Int)), .int .i64 2, .int .i64 8, .int .i64 (12 + 4 * (j : Int) + 2), .int .i64 2] 32)).grown hgrow hfar0; have f9 := kg.field 9 g9; have hgo := OwnPl.app2 hown9; have hsz9 := hBg.size)
              | go_loud (refine wpList_appK rfl (.tmp 55) (.tmp 61) 23 rfl (w2.heap.size + 1) 32 _ 3 24 Try.underlying23 info_pl rfl (by omega) A9 (m + 2) c9 _ rfl (rowK_alloc hgo _) _ 1 1 (plC ⟨9, 12 + 4 * (j : Int) + 4, e⟩) rfl rfl (new1 _ ⟨9, 12 + 4 * (j : Int) + 4, e⟩ _) (plC_one1 _) (by simp only [maxLen]; omega) (by omega) (by simp; omega) ?_; intro A3 c3 w3 hown3 hgrow3 hat3; have hfar03 : some w2.heap.size ≠ rowOf A9 := (fun e => by have := rowV_ge hgo _ e.symm; omega); have hBg3 : Below w2.heap.size w2 w3 := (hBg.alloc hBg.size (.cells #[.int .i64 9, .int .i64 (12 + 4 * (j : Int) + 4), .int .i64 e] 32)).grown hgrow3 (by simp; have := hBg.size; omega) (fun q hq => by have := rowV_ge hgo q hq; omega); have kg3 := (kg.alloc (.cells #[.int .i64 9, .int .i64 (12 + 4 * (j : Int) + 4), .int .i64 e] 32)).grown hgrow3 hfar03; have f9b := kg3.field 9 g9; have hgo3 := OwnPl.app hown3))
            go_meet
            refine ⟨m + 2 + 1, A3, c3, by omega, rfl, by simp [atX] <;> omega, ?_, kg3, hBg3⟩
            have e1 : (basePl ++ csrcPl j) ++ extPl true j e = ((basePl ++ csrcPl j) ++ [⟨7, 12 + 4 * (j : Int), 2⟩, ⟨8, 12 + 4 * (j : Int) + 2, 2⟩]) ++ [⟨9, 12 + 4 * (j : Int) + 4, e⟩] := by simp [extPl, h0]
            rw [e1]
            exact hgo3
      case rest =>
        obtain ⟨m1, B1', d1, hm1', rfl, rfl, hown1, kb1, hB1⟩ := hcut
        clear hown kb hBj f1 hml
        have hz1 : 12 ≤ atX ex j e ∧ atX ex j e ≤ 400000 := by unfold atX; split <;> omega
        obtain ⟨z1, hz1e⟩ : ∃ z, atX ex j e = z := ⟨_, rfl⟩
        obtain ⟨L1, hL1e⟩ : ∃ L, (basePl ++ csrcPl j) ++ extPl ex j e = L := ⟨_, rfl⟩
        rw [hz1e] at hz1 ⊢
        rw [hL1e] at hown1
        have HZ1 := Lib.hid hz1e
        have HL1 := Lib.hid hL1e
        clear hz1e hL1e
        have hown := hown1
        have kb := kb1
        have hBj := hB1
        clear hown1 kb1 hB1
        obtain ⟨B, d, m, hmm⟩ : ∃ (B : Option Addr) (d m : Nat), B = B1' ∧ d = d1 ∧ m = m1 := ⟨_, _, _, rfl, rfl, rfl⟩
        obtain ⟨rfl, rfl, rfl⟩ := hmm
        have f10 := kb.field 10 g10
        have hlt2 := kb.2.2
        go_upto_if 71 with fail
        go_cut [6, 7] (fun v a W => OfC w2 bx 26 (L1 ++ payPl z1 y) (z1 + y) v a W)
        case first =>
          rcases Nat.eq_zero_or_pos y with h0 | h0
          · subst h0
            go_wp2_with fail
            go_meet
            exact ⟨m, B, d, by omega, rfl, by simp, by simpa [payPl] using hown, kb, hBj⟩
          · have h1 : (0 : Int) < y := by omega
            go_wp2_with (at_builtin; go_loud (refine wpList_appK rfl (.tmp 72) (.tmp 78) 23 rfl (w2.heap.size + 1) 32 _ 3 24 Try.underlying23 info_pl rfl (by omega) B m d _ rfl (rowK_alloc hown _) _ 1 1 (plC ⟨10, z1, y⟩) rfl rfl (new1 _ ⟨10, z1, y⟩ _) (plC_one1 _) (by simp only [maxLen]; omega) (by omega) (by simp; omega) ?_; intro A9 c9 w9 hown9 hgrow hat; have hfar0 : some w2.heap.size ≠ rowOf B := (fun e => by have := rowV_ge hown _ e.symm; omega); have hBg : Below w2.heap.size w2 w9 := (hBj.alloc hBj.size (.cells #[.int .i64 10, .int .i64 z1, .int .i64 y] 32)).grown hgrow (by simp; have := hBj.size; omega) (fun q hq => by have := rowV_ge hown q hq; omega); have kg := (kb.alloc (.cells #[.int .i64 10, .int .i64 z1, .int .i64 y] 32)).grown hgrow hfar0; have hgo := OwnPl.app hown9; have f10b := kg.field 10 g10))
            go_meet
            refine ⟨m + 1, A9, c9, by omega, rfl, rfl, ?_, kg, hBg⟩
            have e1 : payPl z1 y = [⟨10, z1, y⟩] := by unfold payPl; rw [if_pos h0]
            rw [e1]
            exact hgo
        case rest =>
          clear hown kb hBj f10
          obtain ⟨m2, B2', d2', hm2', rfl, rfl, hown2, kb2, hB2⟩ := hcut
          obtain ⟨z2, hz2e⟩ : ∃ z, z1 + (y : Int) = z := ⟨_, rfl⟩
          obtain ⟨L2, hL2e⟩ : ∃ L, L1 ++ payPl z1 y = L := ⟨_, rfl⟩
          have hz2 : 12 ≤ z2 ∧ z2 ≤ 500000 := by omega
          rw [hz2e]
          rw [hL2e] at hown2
          have HZ2 := Lib.hid hz2e
          have HL2 := Lib.hid hL2e
          clear hz2e hL2e
          have hown := hown2
          have kb := kb2
          have hBj := hB2
          clear hown2 kb2 hB2 hm1' hz1
          obtain ⟨B, d, m, hmm⟩ : ∃ (B : Option Addr) (d m : Nat), B = B2' ∧ d = d2' ∧ m = m2 := ⟨_, _, _, rfl, rfl, rfl⟩
          obtain ⟨rfl, rfl, rfl⟩ := hmm
          have f11 := kb.field 11 g11
          have hlt3 := kb.2.2
          go_upto_if 87 with fail
          go_cut [6, 7] (fun v a W => OfC w2 bx 27 (L2 ++ fillPl z2 k) z2 v a W)
          case first =>
            by_cases h1 : 1 < k
            · go_wp2_with (at_builtin; go_loud (refine wpList_appK rfl (.tmp 88) (.tmp 94) 23 rfl (w2.heap.size + 1) 32 _ 3 24 Try.underlying23 info_pl rfl (by omega) B m d _ rfl (rowK_alloc hown _) _ 1 1 (plC ⟨11, z2, (k - 1)⟩) rfl rfl (new1 _ ⟨11, z2, (k - 1)⟩ _) (plC_one1 _) (by simp only [maxLen]; omega) (by omega) (by simp; omega) ?_; intro A9 c9 w9 hown9 hgrow hat; have hfar0 : some w2.heap.size ≠ rowOf B := (fun e => by have := rowV_ge hown _ e.symm; omega); have hBg : Below w2.heap.size w2 w9 := (hBj.alloc hBj.size (.cells #[.int .i64 11, .int .i64 z2, .int .i64 (k - 1)] 32)).grown hgrow (by simp; have := hBj.size; omega) (fun q hq => by have := rowV_ge hown q hq; omega); have kg := (kb.alloc (.cells #[.int .i64 11, .int .i64 z2, .int .i64 (k - 1)] 32)).grown hgrow hfar0; have hgo := OwnPl.app hown9))
              go_meet
              refine ⟨m + 1, A9, c9, by omega, rfl, rfl, ?_, kg, hBg⟩
              have e1 : fillPl z2 k = [⟨11, z2, k - 1⟩] := by unfold fillPl; rw [if_pos h1]
              rw [e1]
              exact hgo
            · go_wp2_with fail
              go_meet
              refine ⟨m, B, d, by omega, rfl, rfl, ?_, kb, hBj⟩
              have e1 : fillPl z2 k = [] := by unfold fillPl; rw [if_neg (by omega)]
              rw [e1, List.append_nil]
              exact hown
          case rest =>
            clear hown kb hBj f11
            obtain ⟨m3, B3', d3', hm3', rfl, rfl, hown3, kb3, hB3⟩ := hcut
            have hown := hown3
            have kb := kb3
            have hBj := hB3
            clear hown3 kb3 hB3 hm2'
            obtain ⟨B, d, m, hmm⟩ : ∃ (B : Option Addr) (d m : Nat), B = B3' ∧ d = d3' ∧ m = m3 := ⟨_, _, _, rfl, rfl, rfl⟩
            obtain ⟨rfl, rfl, rfl⟩ := hmm
            have f11 := kb.field 11 g11
            have hlt4 := kb.2.2
            have hfin : Hid ((L2 ++ fillPl z2 k) ++ countPl l k = Z) := Lib.hid (by
              rw [← HZ.out, ← HL2.out, ← HZ2.out, ← HL1.out, ← HZ1.out]
              simp only [List.append_assoc])
            by_cases h1 : 0 < k
            · have e1 : countPl l k = [⟨12, (l : Int) - 1, 1⟩] := by unfold countPl; rw [if_pos h1]
              rw [e1] at hfin
              go_wp2_with (at_builtin; go_loud (refine wpList_appK rfl (.tmp 99) (.tmp 104) 23 rfl (w2.heap.size + 1) 32 _ 3 24 Try.underlying23 info_pl rfl (by omega) B m d _ rfl (rowK_alloc hown _) _ 1 1 (plC ⟨12, ((l : Int) - 1), 1⟩) rfl rfl (new1 _ ⟨12, ((l : Int) - 1), 1⟩ _) (plC_one1 _) (by simp only [maxLen]; omega) (by omega) (by simp; omega) ?_; intro A9 c9 w9 hown9 hgrow hat; have hfar0 : some w2.heap.size ≠ rowOf B := (fun e => by have := rowV_ge hown _ e.symm; omega); have hBg : Below w2.heap.size w2 w9 := (hBj.alloc hBj.size (.cells #[.int .i64 12, .int .i64 ((l : Int) - 1), .int .i64 1] 32)).grown hgrow (by simp; have := hBj.size; omega) (fun q hq => by have := rowV_ge hown q hq; omega); have kg := (kb.alloc (.cells #[.int .i64 12, .int .i64 ((l : Int) - 1), .int .i64 1] 32)).grown hgrow hfar0; have hgo := OwnPl.app hown9))
              go_ret2
              refine ⟨A9, m + 1, c9, rfl, ?_, hb.trans (hBg.mono hb.size)⟩
              rw [← hfin.out]
              exact hgo.pls
            · have e1 : countPl l k = [] := by unfold countPl; rw [if_neg h1]
              rw [e1, List.append_nil] at hfin
              go_wp2_with fail
              go_ret2
              refine ⟨B, m, d, rfl, ?_, hb.trans (hBj.mono hb.size)⟩
              rw [← hfin.out]
              exact hown.pls
theorem rof_any (A : Option Addr) (l c : Nat) (s : List UInt8) (w : World) (hs : Bs w A l c s) (hl : l ≤ 140737488355328) :
    Calls Try.prog 8 #[.slice A l c] w (GivesPl w (placesS s) (pErr s)) := by
  unfold placesS
  by_cases h : pErr s = 0
  · rw [if_pos h, h]
    have := (pErr_zero h).1
    exact rof_yes A l c s w hs (by rw [← hs.len]; exact this) h
  · rw [if_neg h]
    exact rof_no A l c s w hs hl h

end Go.Proofs.Ytogjkkhboaflcaa
