/-
  Packets as plain data: a packet is read from its bytes as it was; bytes are those of what is read just if they are canonical.
-/
import Derived.Test.YtbalpndgpdbcbaaPackM
namespace Go.Proofs.Ytbalpndgpdbcbaa

theorem rightP_parts {p : Pk} (h : rightP p = true) : rightH p.hd = true ∧ p.pay.length ≤ 65535 ∧ p.ext.length ≤ 262140 ∧ p.ext.length % 4 = 0 ∧ (p.hd.ext = false → p.prof = 0 ∧ p.ext.length = 0) ∧ (p.hd.pad = true → 1 ≤ p.pad ∧ p.pad ≤ 255) ∧ (p.hd.pad = false → p.pad = 0) ∧ sizeP p ≤ 65535 := by
  unfold rightP at h
  rwa [decide_eq_true_eq] at h
/-- The bytes of a packet, and what may stand behind them in the trailer's place. -/
def withT (p : Pk) (T : List UInt8) : List UInt8 := headB p.hd ++ (extB p ++ (p.pay ++ T))
theorem withT_nil (p : Pk) : withT p [] = bodyP p := by simp [withT, bodyP]
theorem packB_form {p : Pk} (h : rightP p = true) : ∃ T, packB p = withT p T ∧ T.length = p.pad.toNat ∧ (p.hd.pad = true → trailN (p.pay ++ T) = T.length ∧ cleanB (p.pay ++ T) = true ∧ T = List.replicate (p.pad.toNat - 1) 0 ++ [UInt8.ofNat p.pad.toNat]) ∧ (p.hd.pad = false → T = []) := by
  obtain ⟨_, _, _, _, _, h1, h2, _⟩ := rightP_parts h
  cases hp : p.hd.pad
  · refine ⟨[], ?_, ?_, fun e => by simp at e, fun _ => rfl⟩
    · rw [withT_nil]; unfold packB; rw [hp]; simp
    · rw [h2 hp]; rfl
  · have hb := h1 hp
    have e1 : packB p = addB (bodyP p) p.pad.toNat := by unfold packB; rw [hp]; simp
    have e2 : ∀ s : List UInt8, addB s p.pad.toNat = s ++ (List.replicate (p.pad.toNat - 1) 0 ++ [UInt8.ofNat p.pad.toNat]) := fun s => by simp [addB, grownB]
    refine ⟨List.replicate (p.pad.toNat - 1) 0 ++ [UInt8.ofNat p.pad.toNat], ?_, ?_, fun _ => ⟨?_, ?_, rfl⟩, fun e => by simp at e⟩
    · rw [e1, e2]
      simp [withT, bodyP]
    · simp only [List.length_append, List.length_replicate, List.length_cons, List.length_nil]; omega
    · rw [← e2, addB_trail _ (by omega) (by omega)]
      simp only [List.length_append, List.length_replicate, List.length_cons, List.length_nil]; omega
    · rw [← e2]
      exact addB_clean _ (by omega) (by omega)

/-- What is read of a header, an extension, and whatever behind. -/
theorem withT_read {p : Pk} (h : rightP p = true) (hf : fitsP p) (T : List UInt8) :
    hErr (withT p T) = 0 ∧ readH (withT p T) = p.hd ∧ readN (withT p T) = (headB p.hd).length ∧ (p.hd.ext = true → wordsP (withT p T) = p.ext.length / 4) ∧ atP (withT p T) = (headB p.hd).length + (extB p).length ∧ (withT p T).drop (atP (withT p T)) = p.pay ++ T := by
  obtain ⟨r1, r2, r3, r4, r5, r6, r7, r8⟩ := rightP_parts h
  obtain ⟨q1, q2, q3⟩ := readH_head r1 hf.1 (extB p ++ (p.pay ++ T))
  have e : withT p T = headB p.hd ++ (extB p ++ (p.pay ++ T)) := rfl
  rw [← e] at q1 q2 q3
  have hd0 : (withT p T).drop (headB p.hd).length = extB p ++ (p.pay ++ T) := by rw [e]; exact List.drop_left
  have hw : p.hd.ext = true → wordsP (withT p T) = p.ext.length / 4 := by
    intro hx
    unfold wordsP
    rw [q2, ← List.drop_drop, hd0]
    unfold extB
    rw [hx]
    simp only [if_true, List.append_assoc]
    rw [List.drop_left' (be_length 2 _), List.take_left' (be_length 2 _), num_be]
    exact Nat.mod_eq_of_lt (by simp; omega)
  have hat : atP (withT p T) = (headB p.hd).length + (extB p).length := by
    unfold atP
    rw [q1, q2, extB_length]
    cases hx : p.hd.ext
    · simp
    · rw [hw hx]; simp only [if_true]; omega
  refine ⟨q3, q1, q2, hw, hat, ?_⟩
  rw [hat, ← List.drop_drop, hd0, List.drop_left]
theorem withT_length (p : Pk) (T : List UInt8) : (withT p T).length = (headB p.hd).length + (extB p).length + p.pay.length + T.length := by
  simp [withT]; omega
/-- A packet is read from its bytes as it was. -/
theorem read_pack {p : Pk} (h : rightP p = true) (hf : fitsP p) : pErr (packB p) = 0 ∧ readP (packB p) = p := by
  obtain ⟨r1, r2, r3, r4, r5, r6, r7, r8⟩ := rightP_parts h
  have hlen := packB_length h
  obtain ⟨T, hT, hTl, hT1, hT0⟩ := packB_form h
  rw [hT] at hlen ⊢
  obtain ⟨a1, a2, a3, a4, a5, a6⟩ := withT_read h hf T
  have hl := withT_length p T
  have hxl := extB_length p
  have hpad : padP (withT p T) = p.pad.toNat := by
    unfold padP
    rw [a2, a6]
    cases hp : p.hd.pad
    · rw [r7 hp]; simp
    · rw [(hT1 hp).1, hTl]; simp
  have he : pErr (withT p T) = 0 := by
    unfold pErr
    rw [if_neg (by omega), if_neg (by omega), if_neg, if_neg]
    · rintro ⟨e1, e2⟩
      rw [a2] at e1
      have := r6 e1
      omega
    · rintro ⟨e1, e2⟩
      rw [a2] at e1
      rw [a3, a4 e1, hl, hxl, if_pos e1] at e2
      omega
  refine ⟨he, ?_⟩
  unfold readP
  rw [if_pos he, Pk.eq_iff]
  have hd0 : (withT p T).drop (headB p.hd).length = extB p ++ (p.pay ++ T) := List.drop_left
  refine ⟨a2, ?_, ?_, ?_, ?_⟩
  · show (if (readH (withT p T)).ext = true then num (((withT p T).drop (readN (withT p T))).take 2) else 0) = p.prof
    rw [a2, a3, hd0]
    cases hx : p.hd.ext
    · simp [(r5 hx).1]
    · unfold extB
      rw [hx]
      simp only [if_true, List.append_assoc]
      rw [List.take_left' (be_length 2 _), num_be]
      exact Nat.mod_eq_of_lt (by simpa using hf.2)
  · show (if (readH (withT p T)).ext = true then ((withT p T).drop (readN (withT p T) + 4)).take (4 * wordsP (withT p T)) else []) = p.ext
    rw [a2, a3]
    cases hx : p.hd.ext
    · simp only [Bool.false_eq_true, if_false]
      exact (List.eq_nil_of_length_eq_zero (r5 hx).2).symm
    · rw [a4 hx, ← List.drop_drop, hd0]
      unfold extB
      rw [hx]
      simp only [if_true, List.append_assoc]
      rw [show 4 = 2 + 2 from rfl, ← List.drop_drop, List.drop_left' (be_length 2 _), List.drop_left' (be_length 2 _), List.take_left' (by omega)]
  · show ((withT p T).drop (atP (withT p T))).take ((withT p T).length - padP (withT p T) - atP (withT p T)) = p.pay
    rw [a6, List.take_left' (by rw [hpad, a5]; omega)]
  · show ((padP (withT p T) : Nat) : Int) = p.pad
    rw [hpad]
    cases hp : p.hd.pad
    · rw [r7 hp]; rfl
    · have := r6 hp; omega
theorem canon_pack {p : Pk} (h : rightP p = true) (hf : fitsP p) : canonP (packB p) = true := by
  obtain ⟨h1, h2⟩ := read_pack h hf
  unfold canonP
  rw [decide_eq_true_eq, h2]
  exact ⟨h1, rfl⟩
theorem packB_inj {p q : Pk} (hp : rightP p = true) (fp : fitsP p) (hq : rightP q = true) (fq : fitsP q) : packB p = packB q ↔ p = q := by
  constructor
  · intro e
    rw [← (read_pack hp fp).2, e, (read_pack hq fq).2]
  · rintro rfl; rfl

end Go.Proofs.Ytbalpndgpdbcbaa
