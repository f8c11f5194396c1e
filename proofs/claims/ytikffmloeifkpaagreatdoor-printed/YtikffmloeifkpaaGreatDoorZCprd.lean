/- For every text, arguments and fuel: of a text that is read, Print writes words with one blank or newline between each two and a newline at the end; where that has at most MaxText bytes it is read again without a fault, and the program so read prints the same, has as many parameters and sites, of the same kinds and as sure, and runs the same. No condition. -/
import Derived.Test.YtikffmloeifkpaaGreatDoorZCprn
namespace Go.Proofs.YtikffmloeifkpaaGreatDoor.printed
open Go.ChangeShapes Go.WideShapes Go.ChangeAt Go.RowKit Go.ChangeMaps
theorem card:Rows.PrintedCardSaid:=
 Claim7.holds_tied_plain_at .later [] _ _ _ _ aUB (fun _ h=>by cases h) (by as_aux_lemma=>kernel_rfl) (fun _ h=>by cases h) printed_row_tie rfl ⟨rfl,rfl⟩ (by as_aux_lemma=>kernel_rfl) rfl aHN (by as_aux_lemma=>kernel_rfl)
#print axioms card
end Go.Proofs.YtikffmloeifkpaaGreatDoor.printed
