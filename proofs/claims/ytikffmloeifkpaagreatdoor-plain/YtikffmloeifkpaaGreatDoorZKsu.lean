/- Contracts. -/
import Derived.Test.YtikffmloeifkpaaGreatDoorP39
namespace Go.Proofs.YtikffmloeifkpaaGreatDoor
open Go.RowKit Go.Lib Go.Deep
set_option maxRecDepth 1000000
def flA(q:Nat->Int)(n s:Int):Fl:=fnA (aA [aW3 q n]) [aVR q n s] (aVR q n s) (fun _=>false)
theorem aX4(q:Nat->Int):((List.range 64).all fun n=>(List.range 9).all fun s=>(List.range 2).all fun k=>flA q ((n+1:Nat):Int) ((s+1:Nat):Int) k)=true:=by kernel_rfl
def flB(q:Nat->Int)(n s:Int):Fl:=fnA (aA [aVZ q n]) [aVQ q n,aUZ q n s] (aUZ q n s) (fnA (aA [aVZ q n]) [aVQ q n,aUZ q n s] (aVQ q n) (fun _=>false))
theorem aX3(q:Nat->Int):((List.range 64).all fun n=>(List.range 9).all fun s=>(List.range 3).all fun k=>flB q ((n+1:Nat):Int) ((s+1:Nat):Int) k)=true:=by kernel_rfl
def flC(q:Nat->Int)(n s:Int):Fl:=fnA (aA [aW2 q n]) [aVG q n s] (aVG q n s) (fun _=>false)
theorem aX2(q:Nat->Int):((List.range 64).all fun n=>(List.range 9).all fun s=>(List.range 3).all fun k=>flC q ((n+1:Nat):Int) ((s+1:Nat):Int) k)=true:=by kernel_rfl
end Go.Proofs.YtikffmloeifkpaaGreatDoor
