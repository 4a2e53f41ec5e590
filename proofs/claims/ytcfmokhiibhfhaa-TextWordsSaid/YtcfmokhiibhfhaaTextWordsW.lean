/-
  The walk of the statement TextWords, by the contracts of package text's calls. (Written by gen_TextWordsW.py.)
-/
import Derived.Test.YtcfmokhiibhfhaaTextK
import Derived.Test.YtcfmokhiibhfhaaTextJ
import Derived.Test.YtcfmokhiibhfhaaTextMayW
import Derived.Test.YtcfmokhiibhfhaaRow
import Derived.Deep.DeepCutAuto
namespace Go.Proofs.Ytcfmokhiibhfhaa
open Go.RowKit

theorem row_kept {w w' : World} {base n c : Nat} {A : Option Addr} {l : List (List UInt8)} (h : Texts w base A n c l) (hb : Below w.heap.size w w') : Texts w' base A n c l := by
  obtain ⟨h1, h2⟩ := h
  refine ⟨h1, ?_⟩
  rcases h2 with h2 | ⟨g, cap, cur, hv, hg, hh, r⟩
  · exact .inl h2
  · exact .inr ⟨g, cap, cur, hv, hg, (hb.block g (lt_of_block hh)).trans hh, r⟩
theorem bools_sl {w : World} {a : Option Addr} {len cap : Nat} {B : Nat → Bool} (h : IsBools w a len cap B) : Sl w a len cap ((List.range len).map fun i => .bool (B i)) := by
  rcases h with ⟨rfl, rfl, rfl⟩ | ⟨x, rfl, hl, hm, hcell⟩
  · exact Sl.nil w
  · refine ⟨by simp, hl, hm, (fun h => by cases h), fun hn => ?_⟩
    obtain ⟨b, off, spot⟩ := x
    have hspot : spot = none := by
      have := World.cell?_spot (hcell 0 (by omega))
      simpa [Addr.add] using this
    subst hspot
    refine ⟨b, off, rfl, fun i y hy => ?_⟩
    have hi : i < len := by
      rcases Nat.lt_or_ge i len with h | h
      · exact h
      · rw [List.getElem?_eq_none (by simpa using h)] at hy; cases hy
    rw [List.getElem?_map, List.getElem?_range hi] at hy
    simp only [Option.map_some, Option.some.injEq] at hy
    have hc := hcell i (by omega)
    rw [add_plain'] at hc
    rw [hc, hy]
/-- The words that were laid so far, a blank between two. -/
def Laid (ws : List (List UInt8)) (al : List UInt8) : Prop := (ws = [] ∧ al = []) ∨ ∃ o v, ws = o ++ [v] ∧ al = laid o v
theorem Laid.first {ws : List (List UInt8)} {al : List UInt8} (h : Laid ws al) (h0 : ws.length = 0) (v : List UInt8) : Laid (ws ++ [v]) (al ++ v) := by
  rcases h with ⟨rfl, rfl⟩ | ⟨o, x, rfl, rfl⟩
  · exact .inr ⟨[], v, rfl, rfl⟩
  · simp at h0
theorem Laid.next {ws : List (List UInt8)} {al : List UInt8} (h : Laid ws al) (h0 : ws.length ≠ 0) (v : List UInt8) : Laid (ws ++ [v]) (al ++ [32] ++ v) := by
  rcases h with ⟨rfl, rfl⟩ | ⟨o, x, rfl, rfl⟩
  · exact absurd rfl h0
  · refine .inr ⟨o ++ [x], v, rfl, ?_⟩
    rw [laid_snoc]
    unfold laid
    simp
def WInv (w : World) (n : Nat) (x y i : Value) (W : World) : Prop :=
  ∃ (k : Nat) (al : ByteArray) (ws : List (List UInt8)) (A : Option Addr) (c : Nat), k ≤ n ∧ i = .int .i64 k ∧ x = .string al ∧ y = .slice A k c ∧ Below w.heap.size w W ∧ Texts W w.heap.size A k c ws ∧ ws.length = k ∧ (∀ x ∈ ws, cleanW x) ∧ Laid ws al.data.toList ∧ al.size ≤ 400 * k
def AInv (w5 : World) (r : List (List UInt8)) (x i : Value) (W : World) : Prop :=
  ∃ (k : Nat) (al : ByteArray), k ≤ r.length ∧ i = .int .i64 k ∧ x = .string al ∧ W = w5 ∧ Laid (r.take k) al.data.toList ∧ al.size ≤ 2002 * k
theorem Laid.all {ws : List (List UInt8)} {al : List UInt8} (h : Laid ws al) (h0 : ws ≠ []) (hc : ∀ x ∈ ws, cleanW x) : wordsB al = some ws ∧ wordsB (al ++ [32]) = none := by
  rcases h with ⟨rfl, _⟩ | ⟨o, v, rfl, rfl⟩
  · exact absurd rfl h0
  · have ho : ∀ x ∈ o, cleanW x := fun x hx => hc x (by simp [hx])
    have hv : cleanW v := hc v (by simp)
    exact ⟨words_all ho hv, words_behind ho hv⟩
theorem Laid.unique {ws : List (List UInt8)} {a b : List UInt8} (h : Laid ws a) (h2 : Laid ws b) : a = b := by
  rcases h with ⟨rfl, rfl⟩ | ⟨o, v, rfl, rfl⟩
  · rcases h2 with ⟨_, rfl⟩ | ⟨o, v, h3, rfl⟩
    · rfl
    · simp at h3
  · rcases h2 with ⟨h3, _⟩ | ⟨o', v', h3, rfl⟩
    · simp at h3
    · obtain ⟨rfl, h4⟩ := List.append_inj' h3 rfl
      injection h4 with h4
      rw [h4]

set_option maxRecDepth 100000 in
set_option maxHeartbeats 4000000 in
theorem textWords_main (K : TextCalls) (A0 A1 : Option Addr) (n c0 m c1 : Nat) (L : List (List UInt8)) (B : Nat → Bool) (s : ByteArray) (w : World) (hl : Ts w A0 n c0 L) (hp : Sl w A1 m c1 ((List.range m).map fun i => .bool (B i))) (h1 : 1 ≤ n) (h2 : n ≤ 20) (h3 : n ≤ m) (hs : s.size ≤ 2000) :
    Calls Try.prog 5 #[.slice A0 n c0, .slice A1 m c1, .string s] w fun e w' => e = .returned (.bool true) ∧ Below w.heap.size w w' := by
  have HK := Lib.hid K
  have hln := hl.len
  have hm := Sl.cap hp
  have hmc := Sl.le hp
  unfold maxLen at hm
  obtain ⟨i0, hi0', hz0', hz1', hz2'⟩ := info_parts info_str
  have Hi := Lib.hid (And.intro hi0' (And.intro hz0' (And.intro hz1' hz2')))
  obtain ⟨a, oa, rfl, hla, hca⟩ := Sl.at_ hl (by omega)
  obtain ⟨b, ob, rfl, hlb, hcb⟩ := Sl.at_ hp (by omega)
  have HX : Hid (∀ k (hk : k < n), w.cell? ⟨a, oa + k, none⟩ = some (.string ⟨(L[k]'(by omega)).toArray⟩)) := Lib.hid (fun k hk => hca k _ (by rw [List.getElem?_map, List.getElem?_eq_getElem (by omega)]; rfl))
  have HP : Hid (∀ k, k < m → w.cell? ⟨b, ob + k, none⟩ = some (.bool (B k))) := Lib.hid (fun k hk => hcb k _ (by rw [List.getElem?_map, List.getElem?_range hk]; rfl))
  have g0 : ((n : Int) == 0) = false := by rw [beq_eq_false_iff_ne]; omega
  have g1 : decide ((20 : Int) < (n : Int)) = false := by simp; omega
  have g2 : decide (m < n) = false := by simp; omega
  have g3 : decide ((2000 : Int) < (s.size : Int)) = false := by simp; omega
  clear hca hcb hl hp hi0' hz0' hz1' hz2' K
  go_enter Try.func5, Try.ntmps5
  go_wp2_with fail
  refine (awake_any HK.out _).mono ?_
  rintro e w1 ⟨rfl, hB1⟩
  go_wp2_with fail
  have H3 := Lib.hid h3
  clear h3
  go_loopw [7, 8, 9] (fun x y i W => WInv w n x y i W) (fun _ _ i _ => n - (intOf i).toNat)
  case atStart => exact ⟨0, ⟨#[]⟩, [], none, 0, Nat.zero_le _, rfl, rfl, rfl, hB1, World.ownsRow_nil _ _ _ _, rfl, by simp, .inl ⟨rfl, rfl⟩, Nat.le_refl _⟩
  case round =>
    obtain ⟨k, al, ws, A, c, hk, rfl, rfl, rfl, hB, hT, hwl, hcl, hld, hsz⟩ := hrel
    clear hB1
    by_cases hkn : k < n
    · have hx := HX.out k hkn
      have hkm : k < m := by have := H3.out; omega
      have hy := HP.out k hkm
      generalize (L[k]'(by omega)) = x at *
      have HQ : Hid (∀ w, (⟨x.toArray⟩ : ByteArray).size ≤ 1000000 → Calls Try.prog 14 #[.string ⟨x.toArray⟩] w (Says w (.string ⟨(quoteB x).toArray⟩))) := Lib.hid (HK.out.quote ⟨x.toArray⟩)
      have HT : Hid (∀ w, (⟨x.toArray⟩ : ByteArray).size ≤ 1000000 → Calls Try.prog 8 #[.string ⟨x.toArray⟩] w (Says w (.bool (tokenB x)))) := Lib.hid (HK.out.tok ⟨x.toArray⟩)
      generalize B k = pk at *
      have hxs : (⟨x.toArray⟩ : ByteArray).size = x.length := by show x.toArray.size = _; rw [List.size_toArray]
      have hx1 : wr.cell? ⟨a, oa + k, none⟩ = some (.string ⟨x.toArray⟩) := (hB.cell (p := ⟨a, oa + k, none⟩) hla).trans hx
      by_cases hx100 : 100 < x.length
      · have hxs2 : (100 : Int) < ((⟨x.toArray⟩ : ByteArray).size : Int) := by omega
        go_wp2
        go_ret
        exact ⟨rfl, hB⟩
      · have hxs2 : ¬ (100 : Int) < ((⟨x.toArray⟩ : ByteArray).size : Int) := by omega
        have hq3 : (quoteB x).length ≤ 310 := by have := bodyB_length x; rw [quoteB_length]; omega
        go_wp2_with fail
        refine (HQ.out _ (by omega)).mono ?_
        rintro e w2 ⟨rfl, hb⟩
        replace hB := hB.trans (hb.mono hB.size)
        replace hT := row_kept hT hb
        clear hb hx1
        have hy2 : w2.cell? ⟨b, ob + k, none⟩ = some (.bool pk) := (hB.cell (p := ⟨b, ob + k, none⟩) hlb).trans hy
        have hx2 : w2.cell? ⟨a, oa + k, none⟩ = some (.string ⟨x.toArray⟩) := (hB.cell (p := ⟨a, oa + k, none⟩) hla).trans hx
        cases pk
        · obtain ⟨wz, rfl⟩ : ∃ x, x = w2 := ⟨_, rfl⟩
          have hcl2 : ∀ u ∈ ws ++ [quoteB x], cleanW u := by
            intro y hy
            rcases List.mem_append.1 hy with h | h
            · exact hcl y h
            · rw [List.mem_singleton.1 h]; exact clean_quote x
          have hvl : (⟨(quoteB x).toArray⟩ : ByteArray).size ≤ 310 := by show (quoteB x).toArray.size ≤ _; rw [List.size_toArray]; exact hq3
          obtain ⟨hi0, hz0, hz1, hz2⟩ := Hi.out
          have hge := row_lt hT
          have hnews := cell_one_new wz (.string ⟨(quoteB x).toArray⟩) 9
          by_cases hk0 : k = 0
          · have hk1 : ¬ (0 : Int) < (k : Int) := by omega
            have hld2 := Lib.hid (show Laid (ws ++ [quoteB x]) (al ++ ⟨(quoteB x).toArray⟩).data.toList by rw [wd_add]; exact hld.first (by omega) (quoteB x))
            have hsz2 : (al ++ ⟨(quoteB x).toArray⟩).size ≤ 400 * (k + 1) := by rw [ByteArray.size_append]; omega
            have Hcl2 := Lib.hid hcl2
            clear hcl2 hcl hld hk0
            go_wp2_with (at_builtin; go_loud (refine wpList_append_own_at _ rfl (.tmp 75) (.tmp 77) 31 rfl w.heap.size 9 i0 (.string ⟨#[]⟩) 1 16 Try.underlying31 hi0 hz0 hz1 hz2 rfl (by omega) (.slice A k c) k (ws.map textV) rfl (World.ownsRow.alloc hT _) ⟨wz.heap.size, 0, none⟩ 1 1 [.string ⟨(quoteB x).toArray⟩] rfl rfl hnews (by simp [Value.oneCell']) (by simp only [maxLen]; omega) (by omega) (by have := hB.size; simp; omega) ?_); intro v' w6 hown6 hgrow _ hat)
            obtain ⟨A6, c6, rfl⟩ := row_form hown6
            rw [ownBlock_slice] at hgrow
            have hB6 := (hB.alloc hB.size _).grown hgrow (by have := hB.size; simp; omega) (fun k hk => hge k hk)
            have hT6 : Texts w6 w.heap.size A6 (k + 1) c6 (ws ++ [quoteB x]) := by
              unfold Texts
              rw [List.map_append, List.map_singleton]
              exact hown6
            go_wp2
            go_roundw
            case rel => exact ⟨k + 1, al ++ ⟨(quoteB x).toArray⟩, ws ++ [quoteB x], A6, c6, by omega, by go_num, rfl, rfl, hB6, hT6, by simp [hwl], Hcl2.out, hld2.out, hsz2⟩
            case measure => simp [intOf]; omega
          · have hk1 : (0 : Int) < (k : Int) := by omega
            have hld2 := Lib.hid (show Laid (ws ++ [quoteB x]) ((al ++ ⟨#[32]⟩) ++ ⟨(quoteB x).toArray⟩).data.toList by rw [wd_add, wd_add]; exact hld.next (by omega) (quoteB x))
            have hs32 : (al ++ ⟨#[32]⟩).size = al.size + 1 := by rw [ByteArray.size_append]; rfl
            have hsz2 : ((al ++ ⟨#[32]⟩) ++ ⟨(quoteB x).toArray⟩).size ≤ 400 * (k + 1) := by rw [ByteArray.size_append, hs32]; omega
            have Hcl2 := Lib.hid hcl2
            clear hcl2 hcl hld hk0
            go_wp2_with (at_builtin; go_loud (refine wpList_append_own_at _ rfl (.tmp 75) (.tmp 77) 31 rfl w.heap.size 9 i0 (.string ⟨#[]⟩) 1 16 Try.underlying31 hi0 hz0 hz1 hz2 rfl (by omega) (.slice A k c) k (ws.map textV) rfl (World.ownsRow.alloc hT _) ⟨wz.heap.size, 0, none⟩ 1 1 [.string ⟨(quoteB x).toArray⟩] rfl rfl hnews (by simp [Value.oneCell']) (by simp only [maxLen]; omega) (by omega) (by have := hB.size; simp; omega) ?_); intro v' w6 hown6 hgrow _ hat)
            obtain ⟨A6, c6, rfl⟩ := row_form hown6
            rw [ownBlock_slice] at hgrow
            have hB6 := (hB.alloc hB.size _).grown hgrow (by have := hB.size; simp; omega) (fun k hk => hge k hk)
            have hT6 : Texts w6 w.heap.size A6 (k + 1) c6 (ws ++ [quoteB x]) := by
              unfold Texts
              rw [List.map_append, List.map_singleton]
              exact hown6
            go_wp2
            go_roundw
            case rel => exact ⟨k + 1, (al ++ ⟨#[32]⟩) ++ ⟨(quoteB x).toArray⟩, ws ++ [quoteB x], A6, c6, by omega, by go_num, rfl, rfl, hB6, hT6, by simp [hwl], Hcl2.out, hld2.out, hsz2⟩
            case measure => simp [intOf]; omega
        · cases htk : tokenB x
          · have HT2 := Lib.hid (fun w => by have := HT.out w (by omega); rw [htk] at this; exact this)
            go_wp2_with fail
            refine (HT2.out _).mono ?_
            rintro e wz ⟨rfl, hb⟩
            replace hB := hB.trans (hb.mono hB.size)
            replace hT := row_kept hT hb
            clear hb hx2 hy2
            have hcl2 : ∀ u ∈ ws ++ [quoteB x], cleanW u := by
              intro y hy
              rcases List.mem_append.1 hy with h | h
              · exact hcl y h
              · rw [List.mem_singleton.1 h]; exact clean_quote x
            have hvl : (⟨(quoteB x).toArray⟩ : ByteArray).size ≤ 310 := by show (quoteB x).toArray.size ≤ _; rw [List.size_toArray]; exact hq3
            obtain ⟨hi0, hz0, hz1, hz2⟩ := Hi.out
            have hge := row_lt hT
            have hnews := cell_one_new wz (.string ⟨(quoteB x).toArray⟩) 9
            by_cases hk0 : k = 0
            · have hk1 : ¬ (0 : Int) < (k : Int) := by omega
              have hld2 := Lib.hid (show Laid (ws ++ [quoteB x]) (al ++ ⟨(quoteB x).toArray⟩).data.toList by rw [wd_add]; exact hld.first (by omega) (quoteB x))
              have hsz2 : (al ++ ⟨(quoteB x).toArray⟩).size ≤ 400 * (k + 1) := by rw [ByteArray.size_append]; omega
              have Hcl2 := Lib.hid hcl2
              clear hcl2 hcl hld hk0
              go_wp2_with (at_builtin; go_loud (refine wpList_append_own_at _ rfl (.tmp 75) (.tmp 77) 31 rfl w.heap.size 9 i0 (.string ⟨#[]⟩) 1 16 Try.underlying31 hi0 hz0 hz1 hz2 rfl (by omega) (.slice A k c) k (ws.map textV) rfl (World.ownsRow.alloc hT _) ⟨wz.heap.size, 0, none⟩ 1 1 [.string ⟨(quoteB x).toArray⟩] rfl rfl hnews (by simp [Value.oneCell']) (by simp only [maxLen]; omega) (by omega) (by have := hB.size; simp; omega) ?_); intro v' w6 hown6 hgrow _ hat)
              obtain ⟨A6, c6, rfl⟩ := row_form hown6
              rw [ownBlock_slice] at hgrow
              have hB6 := (hB.alloc hB.size _).grown hgrow (by have := hB.size; simp; omega) (fun k hk => hge k hk)
              have hT6 : Texts w6 w.heap.size A6 (k + 1) c6 (ws ++ [quoteB x]) := by
                unfold Texts
                rw [List.map_append, List.map_singleton]
                exact hown6
              go_wp2
              go_roundw
              case rel => exact ⟨k + 1, al ++ ⟨(quoteB x).toArray⟩, ws ++ [quoteB x], A6, c6, by omega, by go_num, rfl, rfl, hB6, hT6, by simp [hwl], Hcl2.out, hld2.out, hsz2⟩
              case measure => simp [intOf]; omega
            · have hk1 : (0 : Int) < (k : Int) := by omega
              have hld2 := Lib.hid (show Laid (ws ++ [quoteB x]) ((al ++ ⟨#[32]⟩) ++ ⟨(quoteB x).toArray⟩).data.toList by rw [wd_add, wd_add]; exact hld.next (by omega) (quoteB x))
              have hs32 : (al ++ ⟨#[32]⟩).size = al.size + 1 := by rw [ByteArray.size_append]; rfl
              have hsz2 : ((al ++ ⟨#[32]⟩) ++ ⟨(quoteB x).toArray⟩).size ≤ 400 * (k + 1) := by rw [ByteArray.size_append, hs32]; omega
              have Hcl2 := Lib.hid hcl2
              clear hcl2 hcl hld hk0
              go_wp2_with (at_builtin; go_loud (refine wpList_append_own_at _ rfl (.tmp 75) (.tmp 77) 31 rfl w.heap.size 9 i0 (.string ⟨#[]⟩) 1 16 Try.underlying31 hi0 hz0 hz1 hz2 rfl (by omega) (.slice A k c) k (ws.map textV) rfl (World.ownsRow.alloc hT _) ⟨wz.heap.size, 0, none⟩ 1 1 [.string ⟨(quoteB x).toArray⟩] rfl rfl hnews (by simp [Value.oneCell']) (by simp only [maxLen]; omega) (by omega) (by have := hB.size; simp; omega) ?_); intro v' w6 hown6 hgrow _ hat)
              obtain ⟨A6, c6, rfl⟩ := row_form hown6
              rw [ownBlock_slice] at hgrow
              have hB6 := (hB.alloc hB.size _).grown hgrow (by have := hB.size; simp; omega) (fun k hk => hge k hk)
              have hT6 : Texts w6 w.heap.size A6 (k + 1) c6 (ws ++ [quoteB x]) := by
                unfold Texts
                rw [List.map_append, List.map_singleton]
                exact hown6
              go_wp2
              go_roundw
              case rel => exact ⟨k + 1, (al ++ ⟨#[32]⟩) ++ ⟨(quoteB x).toArray⟩, ws ++ [quoteB x], A6, c6, by omega, by go_num, rfl, rfl, hB6, hT6, by simp [hwl], Hcl2.out, hld2.out, hsz2⟩
              case measure => simp [intOf]; omega
          · have HT2 := Lib.hid (fun w => by have := HT.out w (by omega); rw [htk] at this; exact this)
            have hne : x ≠ [] := fun e => by rw [e] at htk; cases htk
            go_wp2_with fail
            refine (HT2.out _).mono ?_
            rintro e wz ⟨rfl, hb⟩
            replace hB := hB.trans (hb.mono hB.size)
            replace hT := row_kept hT hb
            clear hb hx2 hy2
            have hx3 : wz.cell? ⟨a, oa + k, none⟩ = some (.string ⟨x.toArray⟩) := (hB.cell (p := ⟨a, oa + k, none⟩) hla).trans hx
            have hcl2 : ∀ u ∈ ws ++ [x], cleanW u := by
              intro y hy
              rcases List.mem_append.1 hy with h | h
              · exact hcl y h
              · rw [List.mem_singleton.1 h]; exact clean_token (tokenB_all htk) hne
            have hvl : (⟨x.toArray⟩ : ByteArray).size ≤ 310 := by show x.toArray.size ≤ _; rw [List.size_toArray]; exact (by omega)
            obtain ⟨hi0, hz0, hz1, hz2⟩ := Hi.out
            have hge := row_lt hT
            have hnews := cell_one_new wz (.string ⟨x.toArray⟩) 9
            by_cases hk0 : k = 0
            · have hk1 : ¬ (0 : Int) < (k : Int) := by omega
              have hld2 := Lib.hid (show Laid (ws ++ [x]) (al ++ ⟨x.toArray⟩).data.toList by rw [wd_add]; exact hld.first (by omega) x)
              have hsz2 : (al ++ ⟨x.toArray⟩).size ≤ 400 * (k + 1) := by rw [ByteArray.size_append]; omega
              have Hcl2 := Lib.hid hcl2
              clear hcl2 hcl hld hk0
              go_wp2_with (at_builtin; go_loud (refine wpList_append_own_at _ rfl (.tmp 75) (.tmp 77) 31 rfl w.heap.size 9 i0 (.string ⟨#[]⟩) 1 16 Try.underlying31 hi0 hz0 hz1 hz2 rfl (by omega) (.slice A k c) k (ws.map textV) rfl (World.ownsRow.alloc hT _) ⟨wz.heap.size, 0, none⟩ 1 1 [.string ⟨x.toArray⟩] rfl rfl hnews (by simp [Value.oneCell']) (by simp only [maxLen]; omega) (by omega) (by have := hB.size; simp; omega) ?_); intro v' w6 hown6 hgrow _ hat)
              obtain ⟨A6, c6, rfl⟩ := row_form hown6
              rw [ownBlock_slice] at hgrow
              have hB6 := (hB.alloc hB.size _).grown hgrow (by have := hB.size; simp; omega) (fun k hk => hge k hk)
              have hT6 : Texts w6 w.heap.size A6 (k + 1) c6 (ws ++ [x]) := by
                unfold Texts
                rw [List.map_append, List.map_singleton]
                exact hown6
              go_wp2
              go_roundw
              case rel => exact ⟨k + 1, al ++ ⟨x.toArray⟩, ws ++ [x], A6, c6, by omega, by go_num, rfl, rfl, hB6, hT6, by simp [hwl], Hcl2.out, hld2.out, hsz2⟩
              case measure => simp [intOf]; omega
            · have hk1 : (0 : Int) < (k : Int) := by omega
              have hld2 := Lib.hid (show Laid (ws ++ [x]) ((al ++ ⟨#[32]⟩) ++ ⟨x.toArray⟩).data.toList by rw [wd_add, wd_add]; exact hld.next (by omega) x)
              have hs32 : (al ++ ⟨#[32]⟩).size = al.size + 1 := by rw [ByteArray.size_append]; rfl
              have hsz2 : ((al ++ ⟨#[32]⟩) ++ ⟨x.toArray⟩).size ≤ 400 * (k + 1) := by rw [ByteArray.size_append, hs32]; omega
              have Hcl2 := Lib.hid hcl2
              clear hcl2 hcl hld hk0
              go_wp2_with (at_builtin; go_loud (refine wpList_append_own_at _ rfl (.tmp 75) (.tmp 77) 31 rfl w.heap.size 9 i0 (.string ⟨#[]⟩) 1 16 Try.underlying31 hi0 hz0 hz1 hz2 rfl (by omega) (.slice A k c) k (ws.map textV) rfl (World.ownsRow.alloc hT _) ⟨wz.heap.size, 0, none⟩ 1 1 [.string ⟨x.toArray⟩] rfl rfl hnews (by simp [Value.oneCell']) (by simp only [maxLen]; omega) (by omega) (by have := hB.size; simp; omega) ?_); intro v' w6 hown6 hgrow _ hat)
              obtain ⟨A6, c6, rfl⟩ := row_form hown6
              rw [ownBlock_slice] at hgrow
              have hB6 := (hB.alloc hB.size _).grown hgrow (by have := hB.size; simp; omega) (fun k hk => hge k hk)
              have hT6 : Texts w6 w.heap.size A6 (k + 1) c6 (ws ++ [x]) := by
                unfold Texts
                rw [List.map_append, List.map_singleton]
                exact hown6
              go_wp2
              go_roundw
              case rel => exact ⟨k + 1, (al ++ ⟨#[32]⟩) ++ ⟨x.toArray⟩, ws ++ [x], A6, c6, by omega, by go_num, rfl, rfl, hB6, hT6, by simp [hwl], Hcl2.out, hld2.out, hsz2⟩
              case measure => simp [intOf]; omega
    · obtain rfl : k = n := by omega
      have hne : ws ≠ [] := fun e => by rw [e] at hwl; simp at hwl; omega
      obtain ⟨hall, hbeh⟩ := hld.all hne hcl
      have W1 := Lib.hid (fun w => words_lit HK.out al ws w (by omega) hall)
      rw [hwl] at W1
      have hs32 : (al ++ ⟨#[32]⟩).size = al.size + 1 := by rw [ByteArray.size_append]; rfl
      have W2 := Lib.hid (fun w => words_lit0 HK.out (al ++ ⟨#[32]⟩) w (by omega) (by rw [wd_add]; exact hbeh))
      have hs33 : (⟨#[32]⟩ ++ al : ByteArray).size = al.size + 1 := by rw [ByteArray.size_append]; show 1 + al.size = _; omega
      have W3 := Lib.hid (fun w => words_lit0 HK.out (⟨#[32]⟩ ++ al) w (by omega) (by rw [wd_add]; exact words_ahead _))
      have HKw := Lib.hid (fun w => HK.out.words s w (by omega))
      clear hall hbeh HX HP Hi hld hcl
      go_wp2_with fail
      refine (W1.out _).mono ?_
      rintro e w2 ⟨A2, c2, rfl, hT2, hb⟩
      replace hB := hB.trans (hb.mono hB.size)
      replace hT := row_kept hT hb
      clear hb
      go_wp2_with fail
      refine (W2.out _).mono ?_
      rintro e w3 ⟨A3, c3, rfl, _, hb⟩
      replace hB := hB.trans (hb.mono hB.size)
      replace hT := row_kept hT hb
      replace hT2 := hT2.below hb
      clear hb
      go_wp2_with fail
      refine (W3.out _).mono ?_
      rintro e w4 ⟨A4, c4, rfl, _, hb⟩
      replace hB := hB.trans (hb.mono hB.size)
      replace hT := row_kept hT hb
      replace hT2 := hT2.below hb
      clear hb
      have S := same_any A2 A k k c2 c ws ws w4 hT2 hT.ts
      rw [decide_eq_true rfl] at S
      have HS := Lib.hid S
      clear S hT hT2
      go_wp2_with fail
      refine (HS.out).mono ?_
      rintro e w' ⟨rfl, q, rfl⟩
      replace hB := below_drewN hB q
      generalize w4.drewN q = w5 at *
      cases hwo : wordsB s.data.toList with
      | none =>
        have V : Hid (∀ w, Calls Try.prog 18 #[.string s] w fun e w' => ∃ A c, e = .returned (.tuple #[.slice A 0 c, .int .i64 6]) ∧ Ts w' A 0 c [] ∧ Below w.heap.size w w') := Lib.hid (fun w => by have := HKw.out w; rw [hwo] at this; exact this)
        clear HKw hwo
        go_wp2_with fail
        refine (V.out _).mono ?_
        rintro e w6 ⟨A6, c6, rfl, _, hb⟩
        replace hB := hB.trans (hb.mono hB.size)
        go_wp2
        go_ret
        exact ⟨rfl, hB⟩
      | some r =>
        have V : Hid (∀ w, Calls Try.prog 18 #[.string s] w fun e w' => ∃ A c, e = .returned (.tuple #[.slice A r.length c, .int .i64 0]) ∧ Ts w' A r.length c r ∧ Below w.heap.size w w') := Lib.hid (fun w => by have := HKw.out w; rw [hwo] at this; exact this)
        obtain ⟨hz1, hz2, hz3⟩ := words_sizes hwo
        obtain ⟨o, v, hro, hlv⟩ := words_again hwo
        have Hla : Hid (Laid r s.data.toList) := Lib.hid (.inr ⟨o, v, hro, hlv.symm⟩)
        rw [size_list] at hz1 hz2
        have Hz1 := Lib.hid hz1
        have hrl : r.length ≠ 0 := fun e => hz3 (List.eq_nil_of_length_eq_zero e)
        clear HKw hwo hz1 hz3 hro hlv
        go_wp2_with fail
        refine (V.out _).mono ?_
        rintro e w6 ⟨A6, c6, rfl, hT6, hb⟩
        replace hB := hB.trans (hb.mono hB.size)
        clear hb
        obtain ⟨d, od, rfl, _, hcd⟩ := Sl.at_ hT6 (by omega)
        have HD : Hid (∀ k (hk : k < r.length), w6.cell? ⟨d, od + k, none⟩ = some (.string ⟨(r[k]'hk).toArray⟩)) := Lib.hid (fun k hk => hcd k _ (by rw [List.getElem?_map, List.getElem?_eq_getElem hk]; rfl))
        have hr63 := Sl.le hT6
        have hr64 := Sl.cap hT6
        unfold maxLen at hr64
        clear hcd hT6
        go_wp2_with fail
        go_loopw [19, 20] (fun x i W => AInv w6 r x i W) (fun _ i _ => r.length - (intOf i).toNat)
        case atStart => exact ⟨0, ⟨#[]⟩, Nat.zero_le _, rfl, rfl, rfl, .inl ⟨rfl, rfl⟩, Nat.zero_le _⟩
        case round =>
          obtain ⟨j, al2, hj, rfl, rfl, hW, hl2, hs2⟩ := hrel
          obtain rfl : w6 = wr := hW.symm
          by_cases hjr : j < r.length
          · have hd := HD.out j hjr
            have hxl := Hz1.out (r[j]'hjr) (List.getElem_mem _)
            have htk := List.take_succ_eq_append_getElem hjr
            generalize (r[j]'hjr) = y at *
            have hys : (⟨y.toArray⟩ : ByteArray).size = y.length := by show y.toArray.size = _; rw [List.size_toArray]
            have hlt : (r.take j).length = j := by rw [List.length_take]; omega
            by_cases hj0 : j = 0
            · have hj1 : ¬ (0 : Int) < (j : Int) := by omega
              have hn : Hid (Laid (r.take (j + 1)) (al2 ++ ⟨y.toArray⟩).data.toList) := Lib.hid (by rw [htk, wd_add]; exact hl2.first (by omega) y)
              have hsz2 : (al2 ++ ⟨y.toArray⟩).size ≤ 2002 * (j + 1) := by rw [ByteArray.size_append]; omega
              clear htk hl2 hlt hj0
              go_wp2
              go_roundw
              case rel => exact ⟨j + 1, _, by omega, by go_num, rfl, rfl, hn.out, hsz2⟩
              case measure => simp [intOf]; omega
            · have hj1 : (0 : Int) < (j : Int) := by omega
              have hn : Hid (Laid (r.take (j + 1)) ((al2 ++ ⟨#[32]⟩) ++ ⟨y.toArray⟩).data.toList) := Lib.hid (by rw [htk, wd_add, wd_add]; exact hl2.next (by omega) y)
              have hs32b : (al2 ++ ⟨#[32]⟩).size = al2.size + 1 := by rw [ByteArray.size_append]; rfl
              have hsz2 : ((al2 ++ ⟨#[32]⟩) ++ ⟨y.toArray⟩).size ≤ 2002 * (j + 1) := by rw [ByteArray.size_append, hs32b]; omega
              clear htk hl2 hlt hj0
              go_wp2
              go_roundw
              case rel => exact ⟨j + 1, _, by omega, by go_num, rfl, rfl, hn.out, hsz2⟩
              case measure => simp [intOf]; omega
          · have hsame : al2.data.toList = s.data.toList := by
              rw [List.take_of_length_le (by omega)] at hl2
              exact hl2.unique Hla.out
            have e1 : al2.toList = s.toList := by rw [Go.ByteArray.toList_eq, Go.ByteArray.toList_eq]; exact hsame
            have e2 : (al2.toList == s.toList) = true := by rw [beq_iff_eq]; exact e1
            have e3 : (0 : Int) < (r.length : Int) := by omega
            have e4 : 0 < r.length := by omega
            clear hsame hl2
            go_wp2
            go_ret
            exact ⟨rfl, hB⟩

end Go.Proofs.Ytcfmokhiibhfhaa
