/-
  What the functions of package packet come to: Canon; all of the contracts that layer 6 leans on.
-/
import Derived.Test.YtbalpndgpdbcbaaPackF
import Derived.Test.YtbalpndgpdbcbaaPackC
namespace Go.Proofs.Ytbalpndgpdbcbaa
open Go.RowKit
set_option linter.unusedVariables false
set_option linter.unusedSimpArgs false

theorem pread_any (A : Option Addr) (l c : Nat) (s : List UInt8) (w : World) (hs : Bs w A l c s) (hl : l ≤ 140737488355328) :
    Calls Try.prog 13 #[.slice A l c] w (GivesP w (readP s) (pErr s)) := by
  have hsl := hs.len
  unfold readP
  by_cases h0 : 65535 < s.length
  · rw [show pErr s = 4 from if_pos h0, if_neg (by omega)]
    exact pread_long A l c s w hs hl (by omega)
  · by_cases h1 : hErr s = 0
    · by_cases h2 : (readH s).ext = true ∧ (s.length < readN s + 4 ∨ s.length < readN s + 4 + 4 * wordsP s)
      · rw [show pErr s = 2 by unfold pErr; rw [if_neg h0, if_neg (by omega), if_pos h2], if_neg (by omega)]
        exact pread_short A l c s w hs (by omega) h1 h2.1 (by omega)
      · have he : pErr s = if (readH s).pad = true ∧ padP s = 0 then 5 else 0 := by unfold pErr; rw [if_neg h0, if_neg (by omega), if_neg h2]
        have := pread_rest A l c s w hs (by omega) h1 (fun hx => by
          have : ¬ (s.length < readN s + 4 ∨ s.length < readN s + 4 + 4 * wordsP s) := fun e => h2 ⟨hx, e⟩
          omega)
        rw [he]
        by_cases h3 : (readH s).pad = true ∧ padP s = 0
        · rw [if_pos h3, if_pos h3] at this
          rw [if_pos h3, if_neg (by omega)]
          exact this
        · rw [if_neg h3, if_neg h3] at this
          rw [if_neg h3, if_pos rfl]
          exact this
    · have he : pErr s = hErr s := by unfold pErr; rw [if_neg h0, if_pos h1]
      rw [he, if_neg h1]
      exact pread_head A l c s w hs (by omega) h1

set_option maxRecDepth 100000 in
set_option maxHeartbeats 1000000 in
theorem pcanon_any (A : Option Addr) (l c : Nat) (s : List UInt8) (w : World) (hs : Bs w A l c s) (hl : l ≤ 140737488355328) :
    Calls Try.prog 17 #[.slice A l c] w (Says w (.bool (canonP s))) := by
  have HR := Lib.hid (fun W hs => pread_any A l c s W hs hl)
  have HC := Lib.hid (fun W hs => clean_any A l c s W hs)
  by_cases h : pErr s = 0
  · have hc := canonP_eq h
    have e0 : (packOf s).hd = readH s := rfl
    rw [readP_of h, h] at HR
    rw [hc, ← e0]
    generalize packOf s = p at *
    obtain ⟨⟨pd, ex, mk, t, q, ti, ss, lst⟩, pr, E, r, k⟩ := p
    clear hc h e0
    generalize cleanB s = b at *
    simp only at HR ⊢
    go_enter Try.func17, Try.ntmps17
    go_wp2_with fail
    refine (HR.out _ hs).mono ?_
    rintro x w2 ⟨A1, c1, B1, cb1, C1, cc1, rfl, hin, hb⟩
    dsimp only [pkV] at hin ⊢
    have hs2 := hs.below hb
    have k1 := Box.new w2 [.bool pd, .bool ex, .bool mk, .int .i64 t, .int .u16 q, .int .u32 ti, .int .u32 ss, .slice A1 lst.length c1, .int .u16 pr, .slice B1 E.length cb1, .slice C1 r.length cc1, .int .i64 k] 29
    have ka := k1.all12.1
    have hB := hb.alloc hb.size (.cells #[.bool pd, .bool ex, .bool mk, .int .i64 t, .int .u16 q, .int .u32 ti, .int .u32 ss, .slice A1 lst.length c1, .int .u16 pr, .slice B1 E.length cb1, .slice C1 r.length cc1, .int .i64 k] 29)
    cases pd
    · go_wp2_with fail
      go_ret
      exact ⟨by simp, hB⟩
    · go_wp2_with fail
      refine (HC.out _ (hs2.alloc _)).mono ?_
      rintro x w' ⟨rfl, rfl⟩
      go_wp2_with fail
      go_ret
      exact ⟨by simp, hB⟩
  · have hcn : canonP s = false := decide_eq_false fun e => h e.1
    have hrd : readP s = zeroP := if_neg h
    rw [hcn]
    rw [hrd] at HR
    have hz : ((pErr s : Int) != 0) = true := by rw [bne_iff_ne]; omega
    generalize pErr s = er at *
    clear h hcn hrd HC
    go_enter Try.func17, Try.ntmps17
    go_wp2_with fail
    refine (HR.out _ hs).mono ?_
    rintro x w2 ⟨A1, c1, B1, cb1, C1, cc1, rfl, hin, hb⟩
    dsimp only [pkV, zeroP, zeroH, List.length_nil] at hin ⊢
    go_wp2_with fail
    go_ret
    exact ⟨rfl, hb.alloc hb.size _⟩

/-- All of the contracts that layer 6's statements lean on. -/
theorem pack_calls : PackCalls where
  right := by
    intro p A n c B lb cb C lc cc w h
    obtain ⟨⟨hu, hs, hr⟩, hn, hb, hc, hf, ht, hk⟩ := h
    obtain ⟨⟨pd, ex, mk, t, q, ti, ss, l⟩, pr, s, r, k⟩ := p
    exact pright_any pd ex mk t q ti ss A n c pr B lb cb C lc cc k l s r w hu.len hs.len hr.len (by omega) (by omega) (by omega)
  size := by
    intro p A n c B lb cb C lc cc w h
    obtain ⟨⟨hu, hs, hr⟩, hn, hb, hc, hf, ht, hk⟩ := h
    obtain ⟨⟨pd, ex, mk, t, q, ti, ss, l⟩, pr, s, r, k⟩ := p
    exact psize_any pd ex mk t q ti ss A n c pr B lb cb C lc cc k l s r w hu.len hs.len hr.len (by omega) (by omega) (by omega)
  write := fun p A n c B lb cb C lc cc room w h _ => pwrite_any p A n c B lb cb C lc cc room w h
  read := fun A l c s w hs hl => pread_any A l c s w hs (by omega)
  canon := fun A l c s w hs hl => pcanon_any A l c s w hs (by omega)

end Go.Proofs.Ytbalpndgpdbcbaa
