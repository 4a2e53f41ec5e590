/-
  Places as plain data: bytes of a packet that are otherwise in one place are a packet's, of the same places, that is otherwise in that field alone.
-/
import Derived.Test.YtogjkkhboaflcaaPlaceQ
import Derived.Test.YtogjkkhboaflcaaBase
namespace Go.Proofs.Ytogjkkhboaflcaa
set_option linter.unusedSimpArgs false
set_option linter.unusedVariables false

/-- The packet now, with a field as it was. -/
def backF (f : Int) (was now : Pk) : Pk :=
  if f = 2 then ⟨⟨now.hd.pad, now.hd.ext, was.hd.mark, was.hd.typ, now.hd.seq, now.hd.time, now.hd.ssrc, now.hd.csrc⟩, now.prof, now.ext, now.pay, now.pad⟩
  else if f = 3 then ⟨⟨now.hd.pad, now.hd.ext, now.hd.mark, now.hd.typ, was.hd.seq, now.hd.time, now.hd.ssrc, now.hd.csrc⟩, now.prof, now.ext, now.pay, now.pad⟩
  else if f = 4 then ⟨⟨now.hd.pad, now.hd.ext, now.hd.mark, now.hd.typ, now.hd.seq, was.hd.time, now.hd.ssrc, now.hd.csrc⟩, now.prof, now.ext, now.pay, now.pad⟩
  else if f = 5 then ⟨⟨now.hd.pad, now.hd.ext, now.hd.mark, now.hd.typ, now.hd.seq, now.hd.time, was.hd.ssrc, now.hd.csrc⟩, now.prof, now.ext, now.pay, now.pad⟩
  else if f = 6 then ⟨⟨now.hd.pad, now.hd.ext, now.hd.mark, now.hd.typ, now.hd.seq, now.hd.time, now.hd.ssrc, was.hd.csrc⟩, now.prof, now.ext, now.pay, now.pad⟩
  else if f = 7 then ⟨now.hd, was.prof, now.ext, now.pay, now.pad⟩
  else if f = 9 then ⟨now.hd, now.prof, was.ext, now.pay, now.pad⟩
  else if f = 10 then ⟨now.hd, now.prof, now.ext, was.pay, now.pad⟩
  else now
structure SameShape (p p' : Pk) : Prop where
  hp : p'.hd.pad = p.hd.pad
  he : p'.hd.ext = p.hd.ext
  hc : p'.hd.csrc.length = p.hd.csrc.length
  hx : p'.ext.length = p.ext.length
  hy : p'.pay.length = p.pay.length
  hk : p'.pad = p.pad
  ht : 0 ≤ p'.hd.typ ∧ p'.hd.typ < 128
  hr : p.hd.ext = false → p'.prof = 0
theorem shape_right {p p' : Pk} (h : rightP p = true) (S : SameShape p p') : rightP p' = true := by
  obtain ⟨r1, r2, r3, r4, r5, r6, r7, r8⟩ := rightP_parts h
  unfold rightH at r1
  rw [decide_eq_true_eq] at r1
  unfold sizeP at r8
  unfold rightP sizeP rightH
  rw [S.hp, S.he, S.hc, S.hx, S.hy, S.hk, decide_eq_true_eq, decide_eq_true_eq]
  exact ⟨⟨S.ht.1, S.ht.2, r1.2.2⟩, r2, r3, r4, fun h => ⟨S.hr h, (r5 h).2⟩, r6, r7, r8⟩
theorem shape_places {p p' : Pk} (S : SameShape p p') (len : Nat) : placesP p' len = placesP p len := by
  unfold placesP
  rw [S.he, S.hc, S.hx, S.hy, S.hk]
theorem turn_core {s x T' : List UInt8} {p' : Pk} {f : Int} (h : pErr s = 0) (hx : x = withT p' T') (S : SameShape (packOf s) p') (hf : fitsP p') (hl : (T'.length : Int) = (packOf s).pad) (h1 : (packOf s).hd.pad = true → trailN (p'.pay ++ T') = T'.length) (hxl : x.length = s.length) (hb : backF f (packOf s) p' = packOf s) :
    pErr x = 0 ∧ placesS x = placesS s ∧ backF f (packOf s) (packOf x) = packOf s := by
  obtain ⟨e1, e2⟩ := read_withT (shape_right (packOf_rightC h).1 S) hf (by rw [hl, S.hk]) (by rw [S.hp]; exact h1)
  rw [← hx] at e1 e2
  have e3 : packOf x = p' := (readP_of e1).symm.trans e2
  refine ⟨e1, ?_, by rw [e3]; exact hb⟩
  unfold placesS
  rw [if_pos e1, if_pos h, e3, hxl]
  exact shape_places S _
theorem be2_num {F : List UInt8} (h : F.length = 2) : be 2 (num F) = F := by have := be_num F; rwa [h] at this
theorem be4_num {F : List UInt8} (h : F.length = 4) : be 4 (num F) = F := by have := be_num F; rwa [h] at this
theorem num_lt2b {F : List UInt8} (h : F.length = 2) : num F < 65536 := by have := num_lt F; rw [h] at this; simpa using this
theorem num_lt4b {F : List UInt8} (h : F.length = 4) : num F < 4294967296 := by have := num_lt F; rw [h] at this; simpa using this
theorem be4s_append (a b : List Nat) : be4s (a ++ b) = be4s a ++ be4s b := by unfold be4s; simp

theorem turn_ok {s : List UInt8} (h : pErr s = 0) {q : Pl} (hq : q ∈ placesS s) (hn1 : q.f ≠ 1) (hn8 : q.f ≠ 8) (hn12 : q.f ≠ 12) (y : List UInt8) (hy : (y.length : Int) ≤ q.s) :
    pErr (splice s q.a.toNat y) = 0 ∧ placesS (splice s q.a.toNat y) = placesS s ∧ backF q.f (packOf s) (packOf (splice s q.a.toNat y)) = packOf s := by
  obtain ⟨T, hsT, hTl, hT1, hT0⟩ := pack_formT h
  obtain ⟨hrt, hfit⟩ := packOf_rightC h
  obtain ⟨r1, r2, r3, r4, r5, r6, r7, r8⟩ := rightP_parts hrt
  unfold placesS at hq
  rw [if_pos h] at hq
  have hxl : ∀ {A F B : List UInt8} {a : Nat}, s = A ++ (F ++ B) → A.length = a → y.length ≤ F.length → (splice s a y).length = s.length := by
    intro A F B a hs ha hle
    refine splice_length s y a ?_
    rw [hs]; simp; omega
  have core := fun (x T' : List UInt8) (p' : Pk) (f : Int) => turn_core (s := s) (x := x) (T' := T') (p' := p') (f := f) h
  have hsT' : s = UInt8.ofNat (firstB (packOf s).hd) :: UInt8.ofNat (secondB (packOf s).hd) :: (be 2 (packOf s).hd.seq ++ (be 4 (packOf s).hd.time ++ (be 4 (packOf s).hd.ssrc ++ (be4s (packOf s).hd.csrc ++ (extB (packOf s) ++ ((packOf s).pay ++ T)))))) := by
    have := hsT
    unfold withT headB at this
    simpa using this
  have hcl : (packOf s).hd.csrc.length < 16 := by
    unfold rightH at r1
    rw [decide_eq_true_eq] at r1
    exact r1.2.2
  have htyp : 0 ≤ (packOf s).hd.typ ∧ (packOf s).hd.typ < 128 := by
    unfold rightH at r1
    rw [decide_eq_true_eq] at r1
    exact ⟨r1.1, r1.2.1⟩
  have hxB := extB_length (packOf s)
  generalize packOf s = p at *
  obtain ⟨⟨pd, ex, mk, t, sq, ti, ss, l⟩, pr, E, r, k⟩ := p
  simp only at *
  obtain ⟨⟨f1, f2, f3, f4⟩, f5⟩ := hfit
  simp only at f1 f2 f3 f4 f5
  have hHB : s = headB ⟨pd, ex, mk, t, sq, ti, ss, l⟩ ++ (extB ⟨⟨pd, ex, mk, t, sq, ti, ss, l⟩, pr, E, r, k⟩ ++ (r ++ T)) := hsT
  have hHl : (headB ⟨pd, ex, mk, t, sq, ti, ss, l⟩).length = 12 + 4 * l.length := headB_length _
  unfold placesP at hq
  simp only [List.mem_append] at hq
  rcases hq with hq | hq | hq | hq | hq | hq
  · -- the header without sources
    unfold basePl at hq
    simp only [List.mem_cons, List.not_mem_nil, or_false] at hq
    rcases hq with rfl | rfl | rfl | rfl | rfl
    · exact absurd rfl hn1
    · -- the second byte
      have hs : s = [UInt8.ofNat (firstB ⟨pd, ex, mk, t, sq, ti, ss, l⟩)] ++ ([UInt8.ofNat (secondB ⟨pd, ex, mk, t, sq, ti, ss, l⟩)] ++ (be 2 sq ++ (be 4 ti ++ (be 4 ss ++ (be4s l ++ (extB ⟨⟨pd, ex, mk, t, sq, ti, ss, l⟩, pr, E, r, k⟩ ++ (r ++ T))))))) := by rw [hsT']; simp
      have hle : y.length ≤ ([UInt8.ofNat (secondB ⟨pd, ex, mk, t, sq, ti, ss, l⟩)] : List UInt8).length := by simp only [List.length_cons, List.length_nil]; simp only at hy; omega
      have hx := splice_seg (A := [UInt8.ofNat (firstB ⟨pd, ex, mk, t, sq, ti, ss, l⟩)]) (F := [UInt8.ofNat (secondB ⟨pd, ex, mk, t, sq, ti, ss, l⟩)]) (B := be 2 sq ++ (be 4 ti ++ (be 4 ss ++ (be4s l ++ (extB ⟨⟨pd, ex, mk, t, sq, ti, ss, l⟩, pr, E, r, k⟩ ++ (r ++ T)))))) (y := y) (a := 1) rfl hle
      rw [← hs] at hx
      have hF : (y ++ ([UInt8.ofNat (secondB ⟨pd, ex, mk, t, sq, ti, ss, l⟩)] : List UInt8).drop y.length).length = 1 := by rw [List.length_append, List.length_drop]; simp at hle ⊢; omega
      generalize y ++ ([UInt8.ofNat (secondB ⟨pd, ex, mk, t, sq, ti, ss, l⟩)] : List UInt8).drop y.length = F' at *
      obtain ⟨b, rfl⟩ := List.length_eq_one_iff.1 hF
      have hbl := b.toNat_lt
      simp only [Nat.reducePow] at hbl
      refine core _ T ⟨⟨pd, ex, decide (128 ≤ b.toNat), ((b.toNat % 128 : Nat) : Int), sq, ti, ss, l⟩, pr, E, r, k⟩ 2 ?_ ⟨rfl, rfl, rfl, rfl, rfl, rfl, ⟨by simp only; omega, by simp only; omega⟩, fun h => (r5 h).1⟩ ⟨⟨f1, f2, f3, f4⟩, f5⟩ hTl (fun h => (hT1 h).1) (hxl hs rfl hle) rfl
      show splice s 1 y = _
      rw [hx]
      have e2 : UInt8.ofNat (secondB ⟨pd, ex, decide (128 ≤ b.toNat), ((b.toNat % 128 : Nat) : Int), sq, ti, ss, l⟩) = b := by
        have : secondB ⟨pd, ex, decide (128 ≤ b.toNat), ((b.toNat % 128 : Nat) : Int), sq, ti, ss, l⟩ = b.toNat := by
          unfold secondB n1
          simp only [Int.toNat_natCast, decide_eq_true_eq]
          split <;> omega
        rw [this]
        apply UInt8.toNat_inj.1
        rw [UInt8.toNat_ofNat']
        simp only [Nat.reducePow]; omega
      show _ = (UInt8.ofNat (firstB ⟨pd, ex, mk, t, sq, ti, ss, l⟩) :: UInt8.ofNat (secondB ⟨pd, ex, decide (128 ≤ b.toNat), ((b.toNat % 128 : Nat) : Int), sq, ti, ss, l⟩) :: (be 2 sq ++ (be 4 ti ++ (be 4 ss ++ be4s l)))) ++ (extB ⟨⟨pd, ex, mk, t, sq, ti, ss, l⟩, pr, E, r, k⟩ ++ (r ++ T))
      rw [e2]
      simp
    · have hs : s = [UInt8.ofNat (firstB ⟨pd, ex, mk, t, sq, ti, ss, l⟩), UInt8.ofNat (secondB ⟨pd, ex, mk, t, sq, ti, ss, l⟩)] ++ (be 2 sq ++ (be 4 ti ++ (be 4 ss ++ (be4s l ++ (extB ⟨⟨pd, ex, mk, t, sq, ti, ss, l⟩, pr, E, r, k⟩ ++ (r ++ T)))))) := by rw [hsT']; simp
      have hle : y.length ≤ (be 2 sq).length := by rw [be_length]; simp only at hy; omega
      have hx := splice_seg (A := [UInt8.ofNat (firstB ⟨pd, ex, mk, t, sq, ti, ss, l⟩), UInt8.ofNat (secondB ⟨pd, ex, mk, t, sq, ti, ss, l⟩)]) (F := be 2 sq) (B := be 4 ti ++ (be 4 ss ++ (be4s l ++ (extB ⟨⟨pd, ex, mk, t, sq, ti, ss, l⟩, pr, E, r, k⟩ ++ (r ++ T))))) (y := y) (a := 2) (by simp [be_length]) hle
      rw [← hs] at hx
      have hF : (y ++ (be 2 sq).drop y.length).length = 2 := by rw [List.length_append, List.length_drop, be_length]; rw [be_length] at hle; omega
      generalize y ++ (be 2 sq).drop y.length = F' at *
      refine core _ T ⟨⟨pd, ex, mk, t, num F', ti, ss, l⟩, pr, E, r, k⟩ 3 ?_ ⟨rfl, rfl, rfl, rfl, rfl, rfl, htyp, fun h => (r5 h).1⟩ ⟨⟨num_lt2b hF, f2, f3, f4⟩, f5⟩ hTl (fun h => (hT1 h).1) (hxl hs (by simp [be_length]) hle) rfl
      show splice s 2 y = _
      rw [hx]
      show _ = (UInt8.ofNat (firstB ⟨pd, ex, mk, t, sq, ti, ss, l⟩) :: UInt8.ofNat (secondB ⟨pd, ex, mk, t, sq, ti, ss, l⟩) :: (be 2 (num F') ++ (be 4 ti ++ (be 4 ss ++ be4s l)))) ++ (extB ⟨⟨pd, ex, mk, t, sq, ti, ss, l⟩, pr, E, r, k⟩ ++ (r ++ T))
      rw [be2_num hF]
      simp
    · have hs : s = ([UInt8.ofNat (firstB ⟨pd, ex, mk, t, sq, ti, ss, l⟩), UInt8.ofNat (secondB ⟨pd, ex, mk, t, sq, ti, ss, l⟩)] ++ be 2 sq) ++ (be 4 ti ++ (be 4 ss ++ (be4s l ++ (extB ⟨⟨pd, ex, mk, t, sq, ti, ss, l⟩, pr, E, r, k⟩ ++ (r ++ T))))) := by rw [hsT']; simp
      have hle : y.length ≤ (be 4 ti).length := by rw [be_length]; simp only at hy; omega
      have hx := splice_seg (A := ([UInt8.ofNat (firstB ⟨pd, ex, mk, t, sq, ti, ss, l⟩), UInt8.ofNat (secondB ⟨pd, ex, mk, t, sq, ti, ss, l⟩)] ++ be 2 sq)) (F := be 4 ti) (B := be 4 ss ++ (be4s l ++ (extB ⟨⟨pd, ex, mk, t, sq, ti, ss, l⟩, pr, E, r, k⟩ ++ (r ++ T)))) (y := y) (a := 4) (by simp [be_length]) hle
      rw [← hs] at hx
      have hF : (y ++ (be 4 ti).drop y.length).length = 4 := by rw [List.length_append, List.length_drop, be_length]; rw [be_length] at hle; omega
      generalize y ++ (be 4 ti).drop y.length = F' at *
      refine core _ T ⟨⟨pd, ex, mk, t, sq, num F', ss, l⟩, pr, E, r, k⟩ 4 ?_ ⟨rfl, rfl, rfl, rfl, rfl, rfl, htyp, fun h => (r5 h).1⟩ ⟨⟨f1, num_lt4b hF, f3, f4⟩, f5⟩ hTl (fun h => (hT1 h).1) (hxl hs (by simp [be_length]) hle) rfl
      show splice s 4 y = _
      rw [hx]
      show _ = (UInt8.ofNat (firstB ⟨pd, ex, mk, t, sq, ti, ss, l⟩) :: UInt8.ofNat (secondB ⟨pd, ex, mk, t, sq, ti, ss, l⟩) :: (be 2 sq ++ (be 4 (num F') ++ (be 4 ss ++ be4s l)))) ++ (extB ⟨⟨pd, ex, mk, t, sq, ti, ss, l⟩, pr, E, r, k⟩ ++ (r ++ T))
      rw [be4_num hF]
      simp
    · have hs : s = ([UInt8.ofNat (firstB ⟨pd, ex, mk, t, sq, ti, ss, l⟩), UInt8.ofNat (secondB ⟨pd, ex, mk, t, sq, ti, ss, l⟩)] ++ be 2 sq ++ be 4 ti) ++ (be 4 ss ++ (be4s l ++ (extB ⟨⟨pd, ex, mk, t, sq, ti, ss, l⟩, pr, E, r, k⟩ ++ (r ++ T)))) := by rw [hsT']; simp
      have hle : y.length ≤ (be 4 ss).length := by rw [be_length]; simp only at hy; omega
      have hx := splice_seg (A := ([UInt8.ofNat (firstB ⟨pd, ex, mk, t, sq, ti, ss, l⟩), UInt8.ofNat (secondB ⟨pd, ex, mk, t, sq, ti, ss, l⟩)] ++ be 2 sq ++ be 4 ti)) (F := be 4 ss) (B := be4s l ++ (extB ⟨⟨pd, ex, mk, t, sq, ti, ss, l⟩, pr, E, r, k⟩ ++ (r ++ T))) (y := y) (a := 8) (by simp [be_length]) hle
      rw [← hs] at hx
      have hF : (y ++ (be 4 ss).drop y.length).length = 4 := by rw [List.length_append, List.length_drop, be_length]; rw [be_length] at hle; omega
      generalize y ++ (be 4 ss).drop y.length = F' at *
      refine core _ T ⟨⟨pd, ex, mk, t, sq, ti, num F', l⟩, pr, E, r, k⟩ 5 ?_ ⟨rfl, rfl, rfl, rfl, rfl, rfl, htyp, fun h => (r5 h).1⟩ ⟨⟨f1, f2, num_lt4b hF, f4⟩, f5⟩ hTl (fun h => (hT1 h).1) (hxl hs (by simp [be_length]) hle) rfl
      show splice s 8 y = _
      rw [hx]
      show _ = (UInt8.ofNat (firstB ⟨pd, ex, mk, t, sq, ti, ss, l⟩) :: UInt8.ofNat (secondB ⟨pd, ex, mk, t, sq, ti, ss, l⟩) :: (be 2 sq ++ (be 4 ti ++ (be 4 (num F') ++ be4s l)))) ++ (extB ⟨⟨pd, ex, mk, t, sq, ti, ss, l⟩, pr, E, r, k⟩ ++ (r ++ T))
      rw [be4_num hF]
      simp
  · -- a source
    unfold csrcPl at hq
    rw [List.mem_map] at hq
    obtain ⟨i, hi, rfl⟩ := hq
    rw [List.mem_range] at hi
    have hil : i < l.length := hi
    have hls : l = l.take i ++ (l[i] :: l.drop (i + 1)) := by rw [← List.drop_eq_getElem_cons hil]; exact (List.take_append_drop i l).symm
    have hbs : be4s l = be4s (l.take i) ++ (be 4 l[i] ++ be4s (l.drop (i + 1))) := by conv => lhs; rw [hls, be4s_append, be4s_cons]
    have hs : s = ([UInt8.ofNat (firstB ⟨pd, ex, mk, t, sq, ti, ss, l⟩), UInt8.ofNat (secondB ⟨pd, ex, mk, t, sq, ti, ss, l⟩)] ++ be 2 sq ++ be 4 ti ++ be 4 ss ++ be4s (l.take i)) ++ (be 4 l[i] ++ (be4s (l.drop (i + 1)) ++ (extB ⟨⟨pd, ex, mk, t, sq, ti, ss, l⟩, pr, E, r, k⟩ ++ (r ++ T)))) := by
      rw [hsT', hbs]; simp
    have hle : y.length ≤ (be 4 l[i]).length := by rw [be_length]; simp only at hy; omega
    have hAl : ([UInt8.ofNat (firstB ⟨pd, ex, mk, t, sq, ti, ss, l⟩), UInt8.ofNat (secondB ⟨pd, ex, mk, t, sq, ti, ss, l⟩)] ++ be 2 sq ++ be 4 ti ++ be 4 ss ++ be4s (l.take i)).length = 12 + 4 * i := by
      simp only [List.length_append, be_length, be4s_length, List.length_take, List.length_cons, List.length_nil]; omega
    have hx := splice_seg (B := be4s (l.drop (i + 1)) ++ (extB ⟨⟨pd, ex, mk, t, sq, ti, ss, l⟩, pr, E, r, k⟩ ++ (r ++ T))) hAl hle
    rw [← hs] at hx
    have hF : (y ++ (be 4 l[i]).drop y.length).length = 4 := by rw [List.length_append, List.length_drop, be_length]; rw [be_length] at hle; omega
    generalize y ++ (be 4 l[i]).drop y.length = F' at *
    have hll : (l.take i ++ (num F' :: l.drop (i + 1))).length = l.length := by simp; omega
    have hxx := hxl hs hAl hle
    refine core _ T ⟨⟨pd, ex, mk, t, sq, ti, ss, l.take i ++ (num F' :: l.drop (i + 1))⟩, pr, E, r, k⟩ 6 ?_ ⟨rfl, rfl, hll, rfl, rfl, rfl, htyp, fun h => (r5 h).1⟩ ⟨⟨f1, f2, f3, ?_⟩, f5⟩ hTl (fun h => (hT1 h).1) ?_ rfl
    · show splice s (12 + 4 * (i : Int)).toNat y = _
      rw [show (12 + 4 * (i : Int)).toNat = 12 + 4 * i by omega, hx]
      have e1 : firstB ⟨pd, ex, mk, t, sq, ti, ss, l.take i ++ (num F' :: l.drop (i + 1))⟩ = firstB ⟨pd, ex, mk, t, sq, ti, ss, l⟩ := by unfold firstB; rw [hll]
      show _ = (UInt8.ofNat (firstB ⟨pd, ex, mk, t, sq, ti, ss, l.take i ++ (num F' :: l.drop (i + 1))⟩) :: UInt8.ofNat (secondB ⟨pd, ex, mk, t, sq, ti, ss, l⟩) :: (be 2 sq ++ (be 4 ti ++ (be 4 ss ++ be4s (l.take i ++ (num F' :: l.drop (i + 1))))))) ++ (extB ⟨⟨pd, ex, mk, t, sq, ti, ss, l⟩, pr, E, r, k⟩ ++ (r ++ T))
      rw [e1, be4s_append, be4s_cons, be4_num hF]
      simp
    · intro z hz
      simp only [List.mem_append, List.mem_cons] at hz
      rcases hz with hz | rfl | hz
      · exact f4 z (List.mem_of_mem_take hz)
      · exact num_lt4b hF
      · exact f4 z (List.mem_of_mem_drop hz)
    · show (splice s (12 + 4 * (i : Int)).toNat y).length = _
      rw [show (12 + 4 * (i : Int)).toNat = 12 + 4 * i by omega]
      exact hxx
  · -- the extension
    unfold extPl at hq
    cases ex with
    | false => simp at hq
    | true =>
      have hEB : extB ⟨⟨pd, true, mk, t, sq, ti, ss, l⟩, pr, E, r, k⟩ = be 2 pr ++ (be 2 (E.length / 4) ++ E) := by unfold extB; rw [if_pos rfl]
      rw [hEB] at hHB
      rw [if_pos rfl] at hq
      simp only [List.mem_append, List.mem_cons, List.not_mem_nil, or_false] at hq
      rcases hq with (rfl | rfl) | hq
      · have hs : s = headB ⟨pd, true, mk, t, sq, ti, ss, l⟩ ++ (be 2 pr ++ (be 2 (E.length / 4) ++ (E ++ (r ++ T)))) := by rw [hHB]; simp
        have hle : y.length ≤ (be 2 pr).length := by rw [be_length]; simp only at hy; omega
        have hx := splice_seg (B := be 2 (E.length / 4) ++ (E ++ (r ++ T))) hHl hle
        rw [← hs] at hx
        have hF : (y ++ (be 2 pr).drop y.length).length = 2 := by rw [List.length_append, List.length_drop, be_length]; rw [be_length] at hle; omega
        generalize y ++ (be 2 pr).drop y.length = F' at *
        have hxx := hxl hs hHl hle
        refine core _ T ⟨⟨pd, true, mk, t, sq, ti, ss, l⟩, num F', E, r, k⟩ 7 ?_ ⟨rfl, rfl, rfl, rfl, rfl, rfl, htyp, fun h => by cases h⟩ ⟨⟨f1, f2, f3, f4⟩, num_lt2b hF⟩ hTl (fun h => (hT1 h).1) ?_ rfl
        · show splice s (12 + 4 * (l.length : Int)).toNat y = _
          rw [show (12 + 4 * (l.length : Int)).toNat = 12 + 4 * l.length by omega, hx]
          unfold withT extB
          simp only [if_true]
          rw [be2_num hF]
          simp
        · show (splice s (12 + 4 * (l.length : Int)).toNat y).length = _
          rw [show (12 + 4 * (l.length : Int)).toNat = 12 + 4 * l.length by omega]
          exact hxx
      · exact absurd rfl hn8
      · split at hq
        · simp only [List.mem_cons, List.not_mem_nil, or_false] at hq
          subst hq
          have hs : s = (headB ⟨pd, true, mk, t, sq, ti, ss, l⟩ ++ (be 2 pr ++ be 2 (E.length / 4))) ++ (E ++ (r ++ T)) := by rw [hHB]; simp
          have hle : y.length ≤ E.length := by simp only at hy; omega
          have hAl : (headB ⟨pd, true, mk, t, sq, ti, ss, l⟩ ++ (be 2 pr ++ be 2 (E.length / 4))).length = 12 + 4 * l.length + 4 := by
            simp only [List.length_append, be_length, hHl]
          have hx := splice_seg (B := r ++ T) hAl hle
          rw [← hs] at hx
          have hF : (y ++ E.drop y.length).length = E.length := by rw [List.length_append, List.length_drop]; omega
          generalize y ++ E.drop y.length = F' at *
          have hxx := hxl hs hAl hle
          refine core _ T ⟨⟨pd, true, mk, t, sq, ti, ss, l⟩, pr, F', r, k⟩ 9 ?_ ⟨rfl, rfl, rfl, hF, rfl, rfl, htyp, fun h => by cases h⟩ ⟨⟨f1, f2, f3, f4⟩, f5⟩ hTl (fun h => (hT1 h).1) ?_ rfl
          · show splice s (12 + 4 * (l.length : Int) + 4).toNat y = _
            rw [show (12 + 4 * (l.length : Int) + 4).toNat = 12 + 4 * l.length + 4 by omega, hx]
            unfold withT extB
            simp only [if_true, hF]
            simp
          · show (splice s (12 + 4 * (l.length : Int) + 4).toNat y).length = _
            rw [show (12 + 4 * (l.length : Int) + 4).toNat = 12 + 4 * l.length + 4 by omega]
            exact hxx
        · simp at hq
  · -- the payload
    unfold payPl at hq
    split at hq
    · simp only [List.mem_cons, List.not_mem_nil, or_false] at hq
      subst hq
      have hs : s = (headB ⟨pd, ex, mk, t, sq, ti, ss, l⟩ ++ extB ⟨⟨pd, ex, mk, t, sq, ti, ss, l⟩, pr, E, r, k⟩) ++ (r ++ T) := by rw [hHB]; simp
      have hle : y.length ≤ r.length := by simp only at hy; omega
      have ha : (atX ex l.length E.length).toNat = 12 + 4 * l.length + (if ex = true then 4 + E.length else 0) := by unfold atX; split <;> omega
      have hAl : (headB ⟨pd, ex, mk, t, sq, ti, ss, l⟩ ++ extB ⟨⟨pd, ex, mk, t, sq, ti, ss, l⟩, pr, E, r, k⟩).length = (atX ex l.length E.length).toNat := by
        rw [List.length_append, hHl, hxB, ha]
      have hx := splice_seg (B := T) hAl hle
      rw [← hs] at hx
      have hF : (y ++ r.drop y.length).length = r.length := by rw [List.length_append, List.length_drop]; omega
      generalize y ++ r.drop y.length = F' at *
      have hxx := hxl hs hAl hle
      refine core _ T ⟨⟨pd, ex, mk, t, sq, ti, ss, l⟩, pr, E, F', k⟩ 10 ?_ ⟨rfl, rfl, rfl, rfl, hF, rfl, htyp, fun h => (r5 h).1⟩ ⟨⟨f1, f2, f3, f4⟩, f5⟩ hTl (fun h => ?_) hxx rfl
      · show splice s (atX ex l.length E.length).toNat y = _
        rw [hx]
        show _ = headB ⟨pd, ex, mk, t, sq, ti, ss, l⟩ ++ (extB ⟨⟨pd, ex, mk, t, sq, ti, ss, l⟩, pr, E, r, k⟩ ++ (F' ++ T))
        simp
      · obtain ⟨q1, q2⟩ := hT1 h
        show trailN (F' ++ T) = _
        rw [trailN_congr hF (by omega)]
        exact q1
    · simp at hq
  · -- the trailer but for its last byte
    unfold fillPl at hq
    split at hq
    · rename_i hk1
      simp only [List.mem_cons, List.not_mem_nil, or_false] at hq
      subst hq
      have hpd : pd = true := by
        cases pd
        · have := r7 rfl; omega
        · rfl
      obtain ⟨q1, q2⟩ := hT1 hpd
      obtain ⟨z, hz⟩ : ∃ z, T.drop (T.length - 1) = [z] := List.length_eq_one_iff.1 (by rw [List.length_drop]; omega)
      have hTz : T = T.take (T.length - 1) ++ [z] := by rw [← hz]; exact (List.take_append_drop _ _).symm
      have hs : s = (headB ⟨pd, ex, mk, t, sq, ti, ss, l⟩ ++ (extB ⟨⟨pd, ex, mk, t, sq, ti, ss, l⟩, pr, E, r, k⟩ ++ r)) ++ (T.take (T.length - 1) ++ [z]) := by rw [← hTz, hHB]; simp
      have hle : y.length ≤ (T.take (T.length - 1)).length := by rw [List.length_take]; simp only at hy; omega
      have ha : (atX ex l.length E.length + (r.length : Int)).toNat = 12 + 4 * l.length + (if ex = true then 4 + E.length else 0) + r.length := by unfold atX; split <;> omega
      have hAl : (headB ⟨pd, ex, mk, t, sq, ti, ss, l⟩ ++ (extB ⟨⟨pd, ex, mk, t, sq, ti, ss, l⟩, pr, E, r, k⟩ ++ r)).length = (atX ex l.length E.length + (r.length : Int)).toNat := by
        rw [List.length_append, List.length_append, hHl, hxB, ha]; omega
      have hx := splice_seg (B := [z]) hAl hle
      rw [← hs] at hx
      have hF : (y ++ (T.take (T.length - 1)).drop y.length).length = (T.take (T.length - 1)).length := by rw [List.length_append, List.length_drop]; omega
      generalize y ++ (T.take (T.length - 1)).drop y.length = F' at *
      have hxx := hxl hs hAl hle
      have hTl2 : (F' ++ [z]).length = T.length := by
        conv => rhs; rw [hTz]
        rw [List.length_append, List.length_append, hF]
      refine core _ (F' ++ [z]) ⟨⟨pd, ex, mk, t, sq, ti, ss, l⟩, pr, E, r, k⟩ 11 ?_ ⟨rfl, rfl, rfl, rfl, rfl, rfl, htyp, fun h => (r5 h).1⟩ ⟨⟨f1, f2, f3, f4⟩, f5⟩ (by rw [hTl2]; exact hTl) (fun h => ?_) hxx rfl
      · show splice s (atX ex l.length E.length + (r.length : Int)).toNat y = _
        rw [hx]
        show _ = headB ⟨pd, ex, mk, t, sq, ti, ss, l⟩ ++ (extB ⟨⟨pd, ex, mk, t, sq, ti, ss, l⟩, pr, E, r, k⟩ ++ (r ++ (F' ++ [z])))
        simp
      · show trailN (r ++ (F' ++ [z])) = _
        rw [trailN_last hF, ← hTz, hTl2]
        exact q1
    · simp at hq
  · unfold countPl at hq
    split at hq
    · simp only [List.mem_cons, List.not_mem_nil, or_false] at hq
      subst hq
      exact absurd rfl hn12
    · simp at hq

end Go.Proofs.Ytogjkkhboaflcaa
