/- Contracts. -/
import Derived.Test.YtikffmloeifkpaaGreatDoorP39
namespace Go.Proofs.YtikffmloeifkpaaGreatDoor
open Go.RowKit Go.Lib Go.Deep
set_option maxRecDepth 1000000
theorem aXP:∀ j,1<=j/\j<=9->aUK 44 j:=by apply cW<;>(intro _ _;kernel_rfl)
theorem aXO:∀ j,1<=j/\j<=9->aUK 45 j:=by apply cW<;>(intro _ _;kernel_rfl)
theorem aXN:∀ j,1<=j/\j<=9->aUK 46 j:=by apply cW<;>(intro _ _;kernel_rfl)
theorem aXM:∀ j,1<=j/\j<=9->aUK 47 j:=by apply cW<;>(intro _ _;kernel_rfl)
theorem aXL:∀ j,1<=j/\j<=9->aUK 48 j:=by apply cW<;>(intro _ _;kernel_rfl)
theorem aXK:∀ j,1<=j/\j<=9->aUK 49 j:=by apply cW<;>(intro _ _;kernel_rfl)
theorem aXJ:∀ j,1<=j/\j<=9->aUK 50 j:=by apply cW<;>(intro _ _;kernel_rfl)
theorem aXI:∀ j,1<=j/\j<=9->aUK 51 j:=by apply cW<;>(intro _ _;kernel_rfl)
theorem aXH:∀ j,1<=j/\j<=9->aUK 52 j:=by apply cW<;>(intro _ _;kernel_rfl)
theorem aXG:∀ j,1<=j/\j<=9->aUK 53 j:=by apply cW<;>(intro _ _;kernel_rfl)
theorem aXF:∀ j,1<=j/\j<=9->aUK 54 j:=by apply cW<;>(intro _ _;kernel_rfl)
theorem aXE:∀ j,1<=j/\j<=9->aUK 55 j:=by apply cW<;>(intro _ _;kernel_rfl)
theorem aXD:∀ j,1<=j/\j<=9->aUK 56 j:=by apply cW<;>(intro _ _;kernel_rfl)
theorem aXC:∀ j,1<=j/\j<=9->aUK 57 j:=by apply cW<;>(intro _ _;kernel_rfl)
theorem aXB:∀ j,1<=j/\j<=9->aUK 58 j:=by apply cW<;>(intro _ _;kernel_rfl)
theorem aXA:∀ j,1<=j/\j<=9->aUK 59 j:=by apply cW<;>(intro _ _;kernel_rfl)
theorem aX9:∀ j,1<=j/\j<=9->aUK 60 j:=by apply cW<;>(intro _ _;kernel_rfl)
theorem aX8:∀ j,1<=j/\j<=9->aUK 61 j:=by apply cW<;>(intro _ _;kernel_rfl)
theorem aX7:∀ j,1<=j/\j<=9->aUK 62 j:=by apply cW<;>(intro _ _;kernel_rfl)
theorem aX6:∀ j,1<=j/\j<=9->aUK 63 j:=by apply cW<;>(intro _ _;kernel_rfl)
theorem aX5:∀ j,1<=j/\j<=9->aUK 64 j:=by apply cW<;>(intro _ _;kernel_rfl)
theorem aW4:aVF 21 44 fun n=>∀ j,1<=j/\j<=9->aUK n j:=⟨⟨⟨⟨⟨⟨⟨⟨⟨⟨⟨⟨⟨⟨⟨⟨⟨⟨⟨⟨⟨trivial,aXP⟩,aXO⟩,aXN⟩,aXM⟩,aXL⟩,aXK⟩,aXJ⟩,aXI⟩,aXH⟩,aXG⟩,aXF⟩,aXE⟩,aXD⟩,aXC⟩,aXB⟩,aXA⟩,aX9⟩,aX8⟩,aX7⟩,aX6⟩,aX5⟩
end Go.Proofs.YtikffmloeifkpaaGreatDoor
