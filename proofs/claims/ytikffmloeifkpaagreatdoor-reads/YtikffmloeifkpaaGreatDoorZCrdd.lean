/- For every text: the program's Read and the document's answer alike: the same fault at the same byte, or both a program, with as many parameters. No condition. -/
import Derived.Test.YtikffmloeifkpaaGreatDoorZCrdn
namespace Go.Proofs.YtikffmloeifkpaaGreatDoor.reads
open Go.ChangeShapes Go.WideShapes Go.ChangeAt Go.RowKit Go.ChangeMaps
theorem card:Rows.ReadsCardSaid:=
 Claim7.holds_tied_plain_at .later [] _ _ _ _ bAB (fun _ h=>by cases h) (by as_aux_lemma=>kernel_rfl) (fun _ h=>by cases h) reads_row_tie rfl ⟨rfl,rfl⟩ (by as_aux_lemma=>kernel_rfl) rfl aZU (by as_aux_lemma=>kernel_rfl)
#print axioms card
end Go.Proofs.YtikffmloeifkpaaGreatDoor.reads
