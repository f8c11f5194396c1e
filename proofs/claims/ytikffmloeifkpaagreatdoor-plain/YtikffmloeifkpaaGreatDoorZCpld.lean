/- For every length, step, factor and kind: of the program that goes through an array in steps all sites are sure, and its run gives the sum that numbers of 64 bits give. No condition. -/
import Derived.Test.YtikffmloeifkpaaGreatDoorZCpln
namespace Go.Proofs.YtikffmloeifkpaaGreatDoor.plain
open Go.ChangeShapes Go.WideShapes Go.ChangeAt Go.RowKit Go.ChangeMaps
theorem card:Rows.PlainCardSaid:=
 Claim7.holds_tied_plain_at .later [] _ _ _ _ aUB (fun _ h=>by cases h) (by as_aux_lemma=>kernel_rfl) (fun _ h=>by cases h) plain_row_tie rfl ⟨rfl,rfl⟩ (by as_aux_lemma=>kernel_rfl) rfl plain (by as_aux_lemma=>kernel_rfl)
#print axioms card
end Go.Proofs.YtikffmloeifkpaaGreatDoor.plain
