/-
  A region that draws its order, walked step by step: going over to a stronger condition in the middle of it.
-/
import Derived.Deep.RegionHeld3
import Derived.Deep.DeepCutAuto
namespace Go.Proofs.Ytbalpndgpdbcbaa

/-- A condition that says more serves where one that says less is asked. -/
theorem wpAnyH_mono {P : Program} {ops : Array Oper} {Q : Exit → Act → World → Prop} {md : Region.Mode} {S1 S2 : World → Prop} (hS : ∀ w, S2 w → S1 w) :
    ∀ {fuel : Nat} {listed : Array Bool} {a : Act} {w : World}, wpAnyH P md ops Q S2 fuel listed a w → wpAnyH P md ops Q S1 fuel listed a w
  | 0, _, _, _, h => h
  | _ + 1, _, _, _, h => ⟨h.1, fun i hi => wpOp_mono (fun _ _ k => ⟨hS _ k.1, wpAnyH_mono hS k.2⟩) (h.2 i hi)⟩

end Go.Proofs.Ytbalpndgpdbcbaa
