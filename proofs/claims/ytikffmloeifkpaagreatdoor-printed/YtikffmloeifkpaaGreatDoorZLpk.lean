/- Contracts. -/
import Derived.Test.YtikffmloeifkpaaGreatDoorQ46
import Derived.Test.YtikffmloeifkpaaGreatDoorQ47
import Derived.Test.YtikffmloeifkpaaGreatDoorQ44
import Derived.Test.YtikffmloeifkpaaGreatDoorQ24
namespace Go.Proofs.YtikffmloeifkpaaGreatDoor
open Go.RowKit Go.Lib Go.Deep Go.Maps Go.ChangeMaps Go.MapKept
def kpT:ByteArray:={data:=#[102,110,32,109,97,105,110,40,110,41,123,114,101,116,117,114,110,40,110,43,49,41,42,50,59,125,35,9]}
theorem bGO:eZ kpT=(0,0):=by decide+kernel
theorem bIS:(prT kpT).size<=4000:=by decide+kernel
theorem bK6:(kM kpT [3] 9).fin=1/\(kM kpT [3] 9).value=8/\(kM kpT [3] 9).site= -1/\(kM kpT [3] 9).outs=[]:=by decide+kernel
theorem bJD:kM kpT [3] 9=⟨1,8,-1,[]⟩:=(aRO _ _).2 bK6
theorem bFZ{s:ByteArray}(hr:(eZ s).1=0)(hz:(prT s).size<=4000):(eZ (prT s)).1=0/\fN (rdT s)=fN (rdT (prT s))/\SK (fS s) (fS (prT s))/\gJ (tK (rdT s))=gJ (tK (rdT (prT s)))/\∀ args fuel,kM s args fuel=kM (prT s) args fuel:=by
 obtain⟨h1,h2,_,_⟩:=bF3 hr;obtain⟨p1,p2,_⟩:=bGF h2;obtain⟨q1,q2,q3,_,q5,q6⟩:=bI7 ⟨p2.len,p2.at_⟩ h2 p1 h1 hz hr;exact⟨q1,q2,q3,q5,q6⟩
theorem bJV:∃ L:ByteArray,prT kpT=L/\bHC L.data.toList/\(∃ h:0 < L.size,(L[L.size - 1]'Oa).toNat=10)/\L.size<=4000/\(eZ L).1=0/\kM L [3] 9=⟨1,8,-1,[]⟩:=by
 have h0:(eZ kpT).1=0:=by rw[bGO]
 obtain⟨h1,h2,_⟩:=bGY h0;obtain⟨h3,_,_,_,h4⟩:=bFZ h0 bIS;exact⟨_,rfl,h1,h2,bIS,h3,by rw[<-h4];exact bJD⟩
theorem bJU{s:ByteArray}(hr:(eZ s).1=0):∃ Q:ByteArray,prT s=Q/\bHC Q.data.toList/\(∃ h:0 < Q.size,(Q[Q.size - 1]'Oa).toNat=10)/\Q.size<=50000000/\prT Q=Q/\(Q.size<=4000->(eZ Q).1=0/\fN (rdT s)=fN (rdT Q)/\SK (fS s) (fS Q)/\gJ (tK (rdT s))=gJ (tK (rdT Q))/\∀ args fuel,kM s args fuel=kM Q args fuel):=by
 obtain⟨h1,h2,h3⟩:=bGY hr;exact⟨_,rfl,h1,h2,h3,(bGF (bF3 hr).2.1).2.2,fun h=>bFZ hr h⟩
end Go.Proofs.YtikffmloeifkpaaGreatDoor
