/- Contracts. -/
import Derived.Test.YtikffmloeifkpaaGreatDoorP39
namespace Go.Proofs.YtikffmloeifkpaaGreatDoor
open Go.RowKit Go.Lib Go.Deep
set_option maxRecDepth 1000000
theorem aYA:∀ j,1<=j/\j<=9->aUK 23 j:=by apply cW<;>(intro _ _;kernel_rfl)
theorem aY9:∀ j,1<=j/\j<=9->aUK 24 j:=by apply cW<;>(intro _ _;kernel_rfl)
theorem aY8:∀ j,1<=j/\j<=9->aUK 25 j:=by apply cW<;>(intro _ _;kernel_rfl)
theorem aY7:∀ j,1<=j/\j<=9->aUK 26 j:=by apply cW<;>(intro _ _;kernel_rfl)
theorem aY6:∀ j,1<=j/\j<=9->aUK 27 j:=by apply cW<;>(intro _ _;kernel_rfl)
theorem aY5:∀ j,1<=j/\j<=9->aUK 28 j:=by apply cW<;>(intro _ _;kernel_rfl)
theorem aY4:∀ j,1<=j/\j<=9->aUK 29 j:=by apply cW<;>(intro _ _;kernel_rfl)
theorem aY3:∀ j,1<=j/\j<=9->aUK 30 j:=by apply cW<;>(intro _ _;kernel_rfl)
theorem aY2:∀ j,1<=j/\j<=9->aUK 31 j:=by apply cW<;>(intro _ _;kernel_rfl)
theorem aY1:∀ j,1<=j/\j<=9->aUK 32 j:=by apply cW<;>(intro _ _;kernel_rfl)
theorem aY0:∀ j,1<=j/\j<=9->aUK 33 j:=by apply cW<;>(intro _ _;kernel_rfl)
theorem aXZ:∀ j,1<=j/\j<=9->aUK 34 j:=by apply cW<;>(intro _ _;kernel_rfl)
theorem aXY:∀ j,1<=j/\j<=9->aUK 35 j:=by apply cW<;>(intro _ _;kernel_rfl)
theorem aXX:∀ j,1<=j/\j<=9->aUK 36 j:=by apply cW<;>(intro _ _;kernel_rfl)
theorem aXW:∀ j,1<=j/\j<=9->aUK 37 j:=by apply cW<;>(intro _ _;kernel_rfl)
theorem aXV:∀ j,1<=j/\j<=9->aUK 38 j:=by apply cW<;>(intro _ _;kernel_rfl)
theorem aXU:∀ j,1<=j/\j<=9->aUK 39 j:=by apply cW<;>(intro _ _;kernel_rfl)
theorem aXT:∀ j,1<=j/\j<=9->aUK 40 j:=by apply cW<;>(intro _ _;kernel_rfl)
theorem aXS:∀ j,1<=j/\j<=9->aUK 41 j:=by apply cW<;>(intro _ _;kernel_rfl)
theorem aXR:∀ j,1<=j/\j<=9->aUK 42 j:=by apply cW<;>(intro _ _;kernel_rfl)
theorem aXQ:∀ j,1<=j/\j<=9->aUK 43 j:=by apply cW<;>(intro _ _;kernel_rfl)
theorem aW5:aVF 21 23 fun n=>∀ j,1<=j/\j<=9->aUK n j:=⟨⟨⟨⟨⟨⟨⟨⟨⟨⟨⟨⟨⟨⟨⟨⟨⟨⟨⟨⟨⟨trivial,aYA⟩,aY9⟩,aY8⟩,aY7⟩,aY6⟩,aY5⟩,aY4⟩,aY3⟩,aY2⟩,aY1⟩,aY0⟩,aXZ⟩,aXY⟩,aXX⟩,aXW⟩,aXV⟩,aXU⟩,aXT⟩,aXS⟩,aXR⟩,aXQ⟩
end Go.Proofs.YtikffmloeifkpaaGreatDoor
