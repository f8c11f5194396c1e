/- For every text, arguments and fuel: no run of a program traps at a site that its Sites tells to be sure; it traps at sites that there are, and what Sites tells is the same before and behind the run. No condition. -/
import Derived.Test.YtikffmloeifkpaaGreatDoorZCcar
namespace Go.Proofs.YtikffmloeifkpaaGreatDoor.careful
open Go.ChangeShapes Go.WideShapes Go.ChangeAt Go.RowKit Go.ChangeMaps
theorem card:Rows.CarefulCardSaid:=
 Claim7.holds_tied_plain_at .later [] _ _ _ _ aUB (fun _ h=>by cases h) (by as_aux_lemma=>kernel_rfl) (fun _ h=>by cases h) careful_row_tie rfl ⟨rfl,rfl⟩ (by as_aux_lemma=>kernel_rfl) rfl aHN (by as_aux_lemma=>kernel_rfl)
#print axioms card
end Go.Proofs.YtikffmloeifkpaaGreatDoor.careful
