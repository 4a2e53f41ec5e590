/-
  '[]byte(s)': new memory that holds the string's bytes. Nothing here speaks of a program.
-/
import Derived.Test.YtnmnbiphonjlaaaBase
import Derived.Laws.IdiomStrings
namespace Go.Proofs.Ytnmnbiphonjlaaa
open Go.RowKit
set_option linter.unusedSimpArgs false

theorem conv_bytes {P : Program} (src dst e : TypeId) (hs : P.underlying src = some .string) (hd : P.underlying dst = some (.slice e)) (he : P.underlying e = some (.int .u8)) (s : ByteArray) (hl : s.size ≤ 140737488355328) (W : World) :
    ∃ A c w', (convert src dst (.string s)).run P W = .ok (.slice A s.size c) w' ∧ Bs w' A s.size c s.data.toList ∧ Below W.heap.size W w' := by
  refine ⟨_, _, _, run_bytes_of_string W src dst e s hs hd he, ?_, ((Below.refl _ W).drew).alloc (by simp) _⟩
  refine Bs.of_cells (by simp) (grownCap_ge W s.size 0 e) (grownCap_le_maxLen W s.size 0 e (by simp only [maxLen]; omega)) fun i hi => ?_
  rw [Nat.zero_add, cell_of_row _ W.heap.size i _ e _ (heap_alloc_new W.drew _)]
  have h2 : i < s.data.size := by simpa using hi
  unfold bytesRow
  rw [Array.getElem?_append_left (by simpa using h2)]
  simp [byteV]
  exact ⟨_, Array.getElem?_eq_getElem h2, rfl⟩

/-- '[]byte("..")' of a literal: the row that was just written out bears the run-time's mark. -/
theorem conv_lit {P : Program} (t e : TypeId) (ht : P.underlying t = some (.slice e)) (he : P.underlying e = some (.int .u8)) (w : World) (l : List UInt8) (n c : Nat) :
    (convert t t (.slice (some ⟨w.heap.size, 0, none⟩) n c)).run P (w.alloc (.cells (l.map byteV).toArray e)) = .ok (.slice (some ⟨w.heap.size, 0, none⟩) n c) (w.alloc (.cells (l.map byteV).toArray e ((l.map byteV).toArray.size, (l.map byteV).toArray.size + 1))) := by
  have hsh : ∀ (C : Array Value), (w.alloc (.cells C e)).shape? w.heap.size = some (e, C.size) := fun C => by
    have : (w.alloc (.cells C e)).heap[w.heap.size]? = some (.cells C e) := by
      show (w.heap.push (.cells C e))[w.heap.size]? = _
      simp
    unfold World.shape?
    rw [this]
  have hfr : ∀ (C : Array Value) (n : Nat), (w.alloc (.cells C e)).freeze ⟨w.heap.size, n, none⟩ 1 = w.alloc (.cells C e (n, n + 1)) := fun C n => by
    have hm : ∀ (a : Array Obj) (x : Obj) (f : Obj → Obj), (a.push x).modify a.size f = a.push (f x) := by
      intro a x f
      apply Array.ext
      · simp
      · intro i h1 h2
        simp only [Array.getElem_modify, Array.getElem_push]
        by_cases h : a.size = i
        · subst h
          simp
        · have hi : i < a.size := by simp at h1; omega
          simp [h, hi]
    unfold World.freeze
    rw [if_neg (by decide)]
    show ({ w.alloc (.cells C e) with heap := (w.heap.push (.cells C e)).modify w.heap.size _ } : World) = _
    rw [hm]
    rfl
  simp [convert, run_underlying ht, run_underlying he, markStringish, hsh]
  have := hfr (l.map byteV).toArray (l.map byteV).toArray.size
  simpa using this
theorem bs_mark (w : World) (l : List UInt8) (e : TypeId) (fr : Nat × Nat) (hl : l.length ≤ maxLen) : Bs (w.alloc (.cells (l.map byteV).toArray e fr)) (some ⟨w.heap.size, 0, none⟩) l.length l.length l := by
  refine Bs.of_cells rfl (Nat.le_refl _) hl fun i hi => ?_
  rw [Nat.zero_add, cell_of_row _ w.heap.size i _ e _ (heap_alloc_new w _)]
  simp [hi]

end Go.Proofs.Ytnmnbiphonjlaaa
