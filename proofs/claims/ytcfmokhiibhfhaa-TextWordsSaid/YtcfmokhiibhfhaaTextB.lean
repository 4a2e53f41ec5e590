/-
  Package text: Quote.
-/
import Derived.Test.YtcfmokhiibhfhaaTextA
namespace Go.Proofs.Ytcfmokhiibhfhaa
open Go.RowKit

/-- What a write leaves: a builder that holds more, what was there as it was. -/
def Wrote (B b : Nat) (l : List UInt8) (w w' : World) : Prop :=
  Lib.IsBuilderF 47 5 B b (Lib.byteCells l) w' ∧ Below B w w' ∧ Lib.OthersKept 5 (some b) w w'
theorem Wrote.trans {B b : Nat} {l m : List UInt8} {w w' w'' : World} (h : Wrote B b l w w') (k : Wrote B b m w' w'') : Wrote B b m w w'' :=
  ⟨k.1, h.2.1.trans k.2.1, h.2.2.trans k.2.2⟩
theorem writeByte_any (B b : Nat) (l : List UInt8) (c : UInt8) (x : Int) (w : World) (h : Lib.IsBuilderF 47 5 B b (Lib.byteCells l) w) (hl : l.length + 1 ≤ 140737488355328) (hB : B ≤ w.heap.size) (hx : x = (c.toNat : Int)) :
    Calls Try.prog 24 #[.pointer (some ⟨b, 0, none⟩), .int .u8 x] w fun e w' => e = .returned .nilIface ∧ Wrote B b (l ++ [c]) w w' := by
  subst hx
  refine (Try.Builder_WriteByte_k B b _ _ w h (by rw [Lib.byteCells_length]; exact hl) hB).mono ?_
  rintro e w' ⟨rfl, h1, h2, h3⟩
  exact ⟨rfl, by rw [Lib.byteCells_append]; exact Or.inr h1, h2, h3⟩
theorem writeRune_any (B b : Nat) (l : List UInt8) (r : Nat) (w : World) (h : Lib.IsBuilderF 47 5 B b (Lib.byteCells l) w) (hl : l.length + 4 ≤ 140737488355328) (hB : B ≤ w.heap.size) (hr : r ≤ 1114111) :
    Calls Try.prog 26 #[.pointer (some ⟨b, 0, none⟩), .int .i32 r] w fun e w' => ∃ n, e = .returned (.tuple #[.int .i64 n, .nilIface]) ∧ Wrote B b (l ++ Lib.encodeRune r) w w' := by
  refine (Try.Builder_WriteRune_k B b _ r (by omega) (by omega) w h (by rw [Lib.byteCells_length]; exact hl) hB).mono ?_
  rintro e w' ⟨rfl, h1, h2, h3⟩
  exact ⟨_, rfl, by rw [Lib.byteCells_append, Lib.byteCells_encodeRune]; exact Or.inr h1, h2, h3⟩

theorem hex_fin : ∀ i : Fin 16, ((⟨#[48, 49, 50, 51, 52, 53, 54, 55, 56, 57, 97, 98, 99, 100, 101, 102]⟩ : ByteArray)[i.1]'i.2) = hexC i.1 := by decide
theorem hex_lit (i : Nat) (h : i < (⟨#[48, 49, 50, 51, 52, 53, 54, 55, 56, 57, 97, 98, 99, 100, 101, 102]⟩ : ByteArray).size) :
    (⟨#[48, 49, 50, 51, 52, 53, 54, 55, 56, 57, 97, 98, 99, 100, 101, 102]⟩ : ByteArray)[i] = hexC i := hex_fin ⟨i, h⟩
theorem writeDigits_any (B b : Nat) (l : List UInt8) (x : Nat) (w : World) (h : Lib.IsBuilderF 47 5 B b (Lib.byteCells l) w) (hl : l.length + 3 ≤ 140737488355328) (hB : B ≤ w.heap.size) (hx : x < 256) :
    Calls Try.prog 25 #[.pointer (some ⟨b, 0, none⟩), .int .u8 x] w fun e w' => e = .returned (.tuple #[]) ∧ Wrote B b (l ++ [92, hexC (x / 16), hexC (x % 16)]) w w' := by
  go_enter Try.func25, Try.ntmps25
  go_wp2_with fail
  refine (writeByte_any B b l 92 _ w h (by omega) hB rfl).mono ?_
  rintro e w1 ⟨rfl, h1⟩
  have s1 := h1.2.1.size
  go_wp2_with fail
  refine (writeByte_any B b (l ++ [92]) (hexC (x / 16)) _ w1 h1.1 (by simp; omega) (by omega) (by rw [hex_lit])).mono ?_
  rintro e w2 ⟨rfl, h2⟩
  have s2 := h2.2.1.size
  go_wp2_with fail
  refine (writeByte_any B b (l ++ [92] ++ [hexC (x / 16)]) (hexC (x % 16)) _ w2 h2.1 (by simp; omega) (by omega) (by rw [hex_lit])).mono ?_
  rintro e w3 ⟨rfl, h3⟩
  go_wp2_with fail
  refine bodyPost_end (results_none rfl _ _ _) rfl ?_
  refine ⟨rfl, ?_⟩
  have := (h1.trans h2).trans h3
  simpa using this


theorem piece_enc {S : List UInt8} (h1 : ¬ isEsc S) (h2 : ¬ isHex S) : piece S = Lib.encodeRune (decL S) := by
  have h0 : rlen S ≠ 0 := fun e => h2 (.inl e)
  rw [piece_plain h1 h2, enc_rune (by omega)]
theorem esc_dec {S : List UInt8} (hS : S ≠ []) (h2 : ¬ isHex S) : isEsc S ↔ decL S = 34 ∨ decL S = 92 := by
  have h0 : rlen S ≠ 0 := fun e => h2 (.inl e)
  unfold isEsc
  by_cases h1 : rlen S = 1
  · rw [decL_one hS h1]; simp [h1]
  · have := decL_high hS (by omega)
    constructor
    · intro h; exact absurd h.1 h1
    · intro h; omega
theorem esc_not {S : List UInt8} (h : isHex S) : ¬ isEsc S := by
  unfold isHex at h; unfold isEsc; omega

set_option maxHeartbeats 2000000 in
theorem quote_any (s : ByteArray) (w : World) (hs : s.size ≤ 3000000) : Calls Try.prog 14 #[.string s] w (Says w (.string ⟨(quoteB s.data.toList).toArray⟩)) := by
  have hsl := size_list s
  go_enter Try.func14, Try.ntmps14
  go_wp2_with fail
  have hI0 : Lib.IsBuilderF 47 5 w.heap.size w.heap.size (Lib.byteCells []) _ := Lib.IsBuilderF.of (Lib.fresh_isBuilder 47 5 w)
  refine (writeByte_any w.heap.size w.heap.size [] 34 _ _ hI0 (by simp) (by simp) rfl).mono ?_
  rintro e w1 ⟨rfl, h1⟩
  have hI1 := h1.1
  have s1 := h1.2.1.size
  have hb1 : Below w.heap.size w w1 := ((Below.refl _ w).alloc (Nat.le_refl _) _).trans h1.2.1
  clear h1 hI0
  simp only [World.size_alloc] at s1
  go_wp2_with fail
  go_loopw [] (fun wr => ∃ (pos : Nat) (acc : List UInt8), pos ≤ s.size ∧ Lib.IsBuilderF 47 5 w.heap.size w.heap.size (Lib.byteCells acc) wr ∧ wr.heap[w1.heap.size]? = some (.stringIter s pos) ∧ Below w.heap.size w wr ∧ acc ++ bodyB (s.data.toList.drop pos) = 34 :: bodyB s.data.toList ∧ acc.length ≤ 1 + 4 * pos) (fun wr => s.size - wr.iterPos w1.heap.size)
  case atStart =>
    exact ⟨0, [34], Nat.zero_le _, hI1.alloc _, it_start w1 s, hb1.alloc (by omega) _, by rw [List.drop_zero]; rfl, by simp⟩
  case round =>
    obtain ⟨pos, acc, hps, hI, hit, hbw, hz, hal⟩ := hrel
    have Hz := Lib.hid hz
    clear hz hI1 hb1
    have hsz : w1.heap.size < wr.heap.size := (Array.getElem?_eq_some_iff.1 hit).1
    by_cases hp : pos < s.size
    · have hnx : ∀ ty, (Instr.next (.pointer (some ⟨w1.heap.size, 0, none⟩)) true ty).run Try.prog wr = _ := fun ty => Lib.run_next_any_at wr w1.heap.size s pos ty hit hp
      have hd := Lib.hid (dec_step s pos hp)
      have hr := Lib.hid (dec_rune s pos)
      have hl := Lib.hid (rest_list s pos)
      have hne := Lib.hid (drop_ne hp)
      have hb0 := Lib.hid (bt_drop0 hp)
      rw [hr.out, hd.out] at hnx
      have hst := step_pos (s.data.toList.drop pos)
      have hsl2 : pos + step (s.data.toList.drop pos) ≤ s.size := by have := step_le (drop_ne hp); rw [List.length_drop, hsl] at this; omega
      have hit2 := Lib.iterAt_heap wr w1.heap.size s pos (pos + step (s.data.toList.drop pos)) hit
      have hbw2 := Lib.below_iterAt hbw (k := w1.heap.size) (by omega) s (pos + step (s.data.toList.drop pos))
      have hI2 := hI.iterAt hit (pos + step (s.data.toList.drop pos))
      have hsz2 : (wr.iterAt w1.heap.size s (pos + step (s.data.toList.drop pos))).heap.size = wr.heap.size := Lib.iterAt_size _ _ _ _
      have hgo := Lib.hid (bodyB_cons hne.out)
      have hpl := piece_length (s.data.toList.drop pos)
      have hz2 := Hz.out
      rw [hgo.out, ← List.append_assoc, List.drop_drop] at hz2
      have Hz2 := Lib.hid hz2
      have hlt := decL_lt (s.data.toList.drop pos)
      have hcase := Lib.hid (fun h => esc_dec (S := s.data.toList.drop pos) hne.out h)
      have hnot := Lib.hid (fun h => esc_not (S := s.data.toList.drop pos) h)
      have hph := Lib.hid (fun h1 h2 => piece_hex (S := s.data.toList.drop pos) h1 h2)
      have hpe := Lib.hid (fun h1 => piece_esc (S := s.data.toList.drop pos) h1)
      have hpp := Lib.hid (fun h1 h2 => piece_enc (S := s.data.toList.drop pos) h1 h2)
      have R := Lib.hid (isPlain_any (s.data.toList.drop pos) (s.extract pos s.size))
      have hd34 := Lib.hid (fun h1 => enc_rune (S := s.data.toList.drop pos) h1)
      generalize hS : s.data.toList.drop pos = S at *
      clear hS hz2 Hz hgo hd hr
      by_cases hc : isHex S
      · have hpc := Lib.hid (hph.out (hnot.out hc) hc)
        rw [hpc.out] at Hz2 hpl
        rw [hb0.out] at Hz2
        clear hpc hph hpe hpp hcase hnot hd34
        go_wp2_with (go_at_call 22; refine (R.out _ hne.out hl.out).mono ?_; rw [decide_eq_true hc]; rintro e w' ⟨rfl, rfl⟩)
        refine (writeDigits_any w.heap.size w.heap.size acc _ _ hI2 (by omega) (by omega) (s[pos].toNat_lt)).mono ?_
        rintro e W ⟨rfl, hW⟩
        go_wp2_with fail
        go_roundw
        case rel => exact ⟨pos + step S, _, hsl2, hW.1, hW.2.2.iter hit2 (by omega), hbw2.trans hW.2.1, Hz2.out, by simp at hpl ⊢; omega⟩
        case measure =>
          simp only [World.iterPos, hW.2.2.iter hit2 (by omega), hit]
          omega
      · by_cases he : isEsc S
        · have hpc := Lib.hid (hpe.out he)
          have hv := (hcase.out hc).1 he
          have hone := he.1
          have hdv := Lib.hid (hd34.out (by omega))
          have hdl : decL S = bt S 0 := by
            rcases he with ⟨h1, h2⟩
            exact decL_one hne.out h1
          rw [hpc.out] at Hz2 hpl
          clear hpc hph hpe hpp hcase hnot hd34 hb0
          have henc : Hid (Lib.encodeRune ((decL S : Nat) : Int) = [UInt8.ofNat (bt S 0)]) := Lib.hid (by
            rw [← hdl]
            rcases hv with h1 | h1 <;> rw [h1] <;> decide)
          clear hdv
          have hc34 : ((decL S : Int) == 34) = true ∨ (((decL S : Int) == 34) = false ∧ ((decL S : Int) == 92) = true) := by
            rcases hv with h1 | h1 <;> rw [h1] <;> decide
          clear hv he hone hdl
          rcases hc34 with c1 | ⟨c1, c2⟩
          all_goals
            go_wp2_with (go_at_call 22; refine (R.out _ hne.out hl.out).mono ?_; rw [decide_eq_false hc]; rintro e w' ⟨rfl, rfl⟩)
            refine (writeByte_any w.heap.size w.heap.size acc 92 _ _ hI2 (by omega) (by omega) rfl).mono ?_
            rintro e W ⟨rfl, hW⟩
            have hit3 := hW.2.2.iter hit2 (by omega)
            have hWs := hW.2.1.size
            go_wp2_with fail
            refine (writeRune_any w.heap.size w.heap.size (acc ++ [92]) (decL S) _ hW.1 (by simp; omega) (by omega) hlt).mono ?_
            rintro e W2 ⟨n, rfl, hW2⟩
            go_wp2_with fail
            go_roundw
            case rel => exact ⟨pos + step S, _, hsl2, hW2.1, hW2.2.2.iter hit3 (by omega), (hbw2.trans hW.2.1).trans hW2.2.1, by rw [henc.out, ← Hz2.out]; simp, by rw [henc.out]; simp at hpl ⊢; omega⟩
            case measure =>
              simp only [World.iterPos, hW2.2.2.iter hit3 (by omega), hit]
              omega
        · have hpc := Lib.hid (hpp.out he hc)
          have hv : ¬ (decL S = 34 ∨ decL S = 92) := fun h => he ((hcase.out hc).2 h)
          have c1 : ((decL S : Int) == 34) = false := by rw [beq_eq_false_iff_ne]; omega
          have c2 : ((decL S : Int) == 92) = false := by rw [beq_eq_false_iff_ne]; omega
          rw [hpc.out] at Hz2 hpl
          clear hpc hph hpe hpp hcase hnot hd34 hb0 hv
          go_wp2_with (go_at_call 22; refine (R.out _ hne.out hl.out).mono ?_; rw [decide_eq_false hc]; rintro e w' ⟨rfl, rfl⟩)
          refine (writeRune_any w.heap.size w.heap.size acc (decL S) _ hI2 (by omega) (by omega) hlt).mono ?_
          rintro e W ⟨n, rfl, hW⟩
          go_wp2_with fail
          go_roundw
          case rel => exact ⟨pos + step S, _, hsl2, hW.1, hW.2.2.iter hit2 (by omega), hbw2.trans hW.2.1, Hz2.out, by simp at hpl ⊢; omega⟩
          case measure =>
            simp only [World.iterPos, hW.2.2.iter hit2 (by omega), hit]
            omega
    · have hnx : ∀ ty, (Instr.next (.pointer (some ⟨w1.heap.size, 0, none⟩)) true ty).run Try.prog wr = _ := fun ty => Lib.run_next_end_at wr w1.heap.size s pos ty hit hp
      have hres : Hid (acc ++ [34] = quoteB s.data.toList) := Lib.hid (by
        have := Hz.out
        rw [List.drop_of_length_le (by omega), show bodyB [] = [] from rfl, List.append_nil] at this
        rw [this]; rfl)
      go_wp2_with fail
      refine (writeByte_any w.heap.size w.heap.size acc 34 _ _ hI (by omega) (by omega) rfl).mono ?_
      rintro e W ⟨rfl, hW⟩
      have hWs := hW.2.1.size
      rw [hres.out] at hW
      go_wp2_with fail
      refine (Try.Builder_String_any_k w.heap.size w.heap.size _ _ hW.1 (by omega)).mono ?_
      rintro e W2 ⟨rfl, _, b2, _⟩
      go_wp2_with fail
      go_ret
      exact ⟨rfl, (hbw.trans hW.2.1).trans b2⟩

end Go.Proofs.Ytcfmokhiibhfhaa
