/- Contracts. -/
import Derived.Test.YtikffmloeifkpaaGreatDoorP39
namespace Go.Proofs.YtikffmloeifkpaaGreatDoor
open Go.RowKit Go.Lib Go.Deep
set_option maxRecDepth 1000000
theorem rC1:∀ j,1<=j/\j<=9->aUK 1 j:=by apply cW<;>(intro _ _;kernel_rfl)
theorem rC2:∀ j,1<=j/\j<=9->aUK 2 j:=by apply cW<;>(intro _ _;kernel_rfl)
theorem rC3:∀ j,1<=j/\j<=9->aUK 3 j:=by apply cW<;>(intro _ _;kernel_rfl)
theorem rC4:∀ j,1<=j/\j<=9->aUK 4 j:=by apply cW<;>(intro _ _;kernel_rfl)
theorem rC5:∀ j,1<=j/\j<=9->aUK 5 j:=by apply cW<;>(intro _ _;kernel_rfl)
theorem rC6:∀ j,1<=j/\j<=9->aUK 6 j:=by apply cW<;>(intro _ _;kernel_rfl)
theorem rC7:∀ j,1<=j/\j<=9->aUK 7 j:=by apply cW<;>(intro _ _;kernel_rfl)
theorem rC8:∀ j,1<=j/\j<=9->aUK 8 j:=by apply cW<;>(intro _ _;kernel_rfl)
theorem rC9:∀ j,1<=j/\j<=9->aUK 9 j:=by apply cW<;>(intro _ _;kernel_rfl)
theorem aYN:∀ j,1<=j/\j<=9->aUK 10 j:=by apply cW<;>(intro _ _;kernel_rfl)
theorem aYM:∀ j,1<=j/\j<=9->aUK 11 j:=by apply cW<;>(intro _ _;kernel_rfl)
theorem aYL:∀ j,1<=j/\j<=9->aUK 12 j:=by apply cW<;>(intro _ _;kernel_rfl)
theorem aYK:∀ j,1<=j/\j<=9->aUK 13 j:=by apply cW<;>(intro _ _;kernel_rfl)
theorem aYJ:∀ j,1<=j/\j<=9->aUK 14 j:=by apply cW<;>(intro _ _;kernel_rfl)
theorem aYI:∀ j,1<=j/\j<=9->aUK 15 j:=by apply cW<;>(intro _ _;kernel_rfl)
theorem aYH:∀ j,1<=j/\j<=9->aUK 16 j:=by apply cW<;>(intro _ _;kernel_rfl)
theorem aYG:∀ j,1<=j/\j<=9->aUK 17 j:=by apply cW<;>(intro _ _;kernel_rfl)
theorem aYF:∀ j,1<=j/\j<=9->aUK 18 j:=by apply cW<;>(intro _ _;kernel_rfl)
theorem aYE:∀ j,1<=j/\j<=9->aUK 19 j:=by apply cW<;>(intro _ _;kernel_rfl)
theorem aYD:∀ j,1<=j/\j<=9->aUK 20 j:=by apply cW<;>(intro _ _;kernel_rfl)
theorem aYC:∀ j,1<=j/\j<=9->aUK 21 j:=by apply cW<;>(intro _ _;kernel_rfl)
theorem aYB:∀ j,1<=j/\j<=9->aUK 22 j:=by apply cW<;>(intro _ _;kernel_rfl)
theorem aWH:aVF 22 1 fun n=>∀ j,1<=j/\j<=9->aUK n j:=⟨⟨⟨⟨⟨⟨⟨⟨⟨⟨⟨⟨⟨⟨⟨⟨⟨⟨⟨⟨⟨⟨trivial,rC1⟩,rC2⟩,rC3⟩,rC4⟩,rC5⟩,rC6⟩,rC7⟩,rC8⟩,rC9⟩,aYN⟩,aYM⟩,aYL⟩,aYK⟩,aYJ⟩,aYI⟩,aYH⟩,aYG⟩,aYF⟩,aYE⟩,aYD⟩,aYC⟩,aYB⟩
end Go.Proofs.YtikffmloeifkpaaGreatDoor
