/- Contracts. -/
import Derived.Test.YtikffmloeifkpaaGreatDoorR29
set_option maxHeartbeats 8000000
set_option maxRecDepth 100000
namespace Go.Proofs.YtikffmloeifkpaaGreatDoor
open Go.RowKit Go.Lib Go.Deep Go.ChangeMaps Go.MapKept Tryz
def aDM:ByteArray:={data:=([97,114,114,32,97,32,49,48,59,32,102,110,32,109,97,105,110,40,110,41,32,123,32,108,101,116,32,105,32,61,32,48,59,32,108,101,116,32,115,32,61,32,48,59,32,119,104,105,108,101,32,105,32,60,32,49].append [48,32,123,32,97,91,105,93,32,61,32,105,32,42,32,110,59,32,115,32,61,32,115,32,43,32,97,91,105,93,59,32,105,32,61,32,105,32,43,32,49,59,32,125,32,114,101,116,117,114,110,32,115,59,32,125]).toArray}
theorem aLH:(fP aDM).1=0:=by decide+kernel
theorem aW2(w:World):Calls prog 17 #[] w fun e a=>e= .returned (.string aDM)/\w=a:=by
 unfold aDM;go_enter func17,ntmps17
 go_wp2;go_ret;exact⟨rfl,rfl⟩
theorem aVQ(w:World)(i:Tab w):Calls prog 14 #[] w fun e a=>(∃ v,e= .returned (.tuple #[v,.bool true]))/\Below w.1.size w a:=by
 have g:∀ W,Tab W->Calls prog 15 #[.string aDM] W fun e a=>∃ b,e= .returned (.tuple #[Qd b,.bool true])/\Below W.1.size W a:=fun W d=>(aCX aDM W d (by unfold maxLen;decide)).mono (by
  rintro e a ⟨v,f,c,⟨_,b,rfl⟩|⟨h,_⟩⟩
  ·exact⟨b,f,c⟩
  ·exact absurd aLH h)
 go_enter func14,ntmps14
 go_wp2_with (first
  |(go_at_call 17;refine(aW2 _).mono ?_;rintro e W ⟨rfl,rfl⟩)
  |(go_at_call 15;refine(g _ i).mono ?_;rintro e W ⟨b,rfl,c⟩))
 refine bodyPost_ret (v:= .tuple #[Qd b,.bool true]) (by simp[results,results14,go_sem]) rfl ⟨⟨_,rfl⟩,c⟩
theorem aQ2(s:ByteArray)(w:World)(h:Tab w)(o:s.size<=maxLen):Calls prog 3 #[.string s] w fun e a=>e= .returned (.bool true)/\Below w.1.size w a:=by
 have k:∀ W,Tab W->Calls prog 15 #[.string ⟨#[102,110,32,109,97,105,110,40,32,123,32,125]⟩] W fun e a=>∃ v,e= .returned (.tuple #[v,.bool true])/\Below W.1.size W a:=fun W f=>(aCX _ W f (by unfold maxLen;decide)).mono (by
  rintro e a ⟨v,g,d,_⟩;exact⟨v,g,d⟩)
 have l:∀ W,Tab W->Calls prog 15 #[.string s] W fun e a=>∃ v,e= .returned (.tuple #[v,.bool true])/\Below W.1.size W a:=fun W f=>(aCX _ W f o).mono (by
  rintro e a ⟨v,g,d,_⟩;exact⟨v,g,d⟩)
 go_enter func3,ntmps3
 go_upto_region 2 with(go_at_call 14;refine(aVQ _ h).mono ?_;rintro e p ⟨⟨t,rfl⟩,b⟩)
 have h0:0 < w.1.size:=Qp w _ (h 0 Ob);have i:=h.below b h0;go_upto_region 3 with(go_at_call 15;refine(k _ i).mono ?_;rintro e q ⟨u,rfl,c⟩)
 have m:=i.below c (Nat.lt_of_lt_of_le h0 b.size);go_upto_region 4 with(go_at_call 15;refine(l _ m).mono ?_;rintro e r ⟨x,rfl,n⟩)
 have j:=(b.t (c.mono b.size)).t (n.mono (Qm b.size c.size));go_wp2;refine bodyPost_ret (v:= .bool true) (by simp[results,results3,go_sem]) rfl ⟨rfl,j⟩
end Go.Proofs.YtikffmloeifkpaaGreatDoor
