/- Contracts. -/
import Derived.Test.YtikffmloeifkpaaGreatDoorQ10
namespace Go.Proofs.YtikffmloeifkpaaGreatDoor
open Go.RowKit Go.Lib Go.Deep
variable {T:List Tok}
def bJ1(T:List Tok)(r:Rd):Prop:=(dD T (r.next - 1)).kind=19\/(dD T (r.next - 1)).kind=15
theorem bGE{r:Rd}{k:Int}(h:(r.take T [k]).code=0):(dD T ((r.take T [k]).next - 1)).kind=k:=by
 obtain⟨_,hs,hn,ht⟩:=bR h;rw[hn,Nat.add_sub_cancel,<-ht];exact List.mem_singleton.1 (aH6 hs)
theorem bHJ:∀ (n:Nat) (r:Rd),(iH T n 6 r).1.code=0->(dD T ((iH T n 6 r).1.next - 1)).kind=15
 |0,r,h=>absurd h (mS Ob)
 |_+1,_,h=>bGE (k:=15) h
theorem bGA(hT:eF T)(he:cY T){B:Pr}(h0:aZ T B)(hB:Ok T 4 B)(h3:∀ r,(B r).1.code=0->(dD T ((B r).1.next - 1)).kind=15)(m:Nat):∀ n r,r.next < T.length->T.length<=n+r.next->(aN T r [0]=true->bJ1 T r)->(aJ T B m n r).1.code=0->aN T (aJ T B m n r).1 [0]=true/\bJ1 T (aJ T B m n r).1:=by
 intro n
 induction n with
 |zero=>intro r h1 h2;omega
 |succ n ih=>
  intro r hr hn hl hc;have hk:=(mB hT he h0 hB m (n+1) r hr hc).1;unfold aJ at hc ⊢;dsimp only at hc ⊢
  by_cases hs:aN T r [0]=true
  ·rw[if_pos hs]at hc ⊢;exact⟨hs,hl hs⟩
  rw[if_neg hs]at hc ⊢;have a1:=aP he hr (show aQ [3,4] 0=false by decide)
  by_cases k3:(cN T r [3,4]).kind=3
  ·rw[if_pos k3]at hc ⊢;have a2:=nS he _ a1.lt;have q1:=(mB hT he h0 hB m n _ a2.lt hc).1;have p1:=(aDY hT he _ a1.lt q1).1;have h7:=(bR p1).2.2.1;have h8:=a2.ge;exact ih _ a2.lt Oa (fun _=> .inl (bGE (k:=19) q1)) hc
  rw[if_neg k3]at hc ⊢
  by_cases k4:(cN T r [3,4]).kind=4
  ·rw[if_pos k4]at hc ⊢;have a2:=jX he h0 m _ a1.lt;have q1:=(mB hT he h0 hB m n _ a2.lt hc).1;have p1:=(wZ hT he h0 hB m _ a1.lt q1).1;have h7:=(bR p1).2.2.1;have h8:=a2.ge;exact ih _ a2.lt Oa (fun _=> .inr (h3 _ q1)) hc
  ·rw[if_neg k4]at hc;have p1:=(mB hT he h0 hB m n _ a1.lt hc).1;have h9:=aH6 (bR p1).2.1;simp only[List.mem_cons,List.not_mem_nil,or_false]at h9;omega
theorem bGM(hT:eF T)(he:cY T)(hp:0 < T.length)(h0:aN T rd0 [0]=false)(hc:(bP T).1.code=0):∃ j,j < T.length/\(dD T j).kind=0/\0 < j/\((dD T (j - 1)).kind=19\/(dD T (j - 1)).kind=15):=by
 have hg:=gF he (bY T) 6;obtain⟨h1,h2⟩:=bGA hT he hg (pH hT he (bY T) 6) (fun r=>bHJ _ r) (bY T) (bY T) rd0 hp (by show T.length<=T.length*16+16+0;omega) (fun h=>by rw[h0]at h;cases h) hc;have hl:=(oV hT he hg (bY T) (bY T) rd0 hp).lt;refine⟨_,hl,?_,?_,h2⟩
 ·unfold aN aQ at h1;exact List.mem_singleton.1 (List.contains_iff_mem.1 h1)
 ·rcases Nat.eq_zero_or_pos (aJ T (iH T (bY T) 6) (bY T) (bY T) rd0).1.next with h|h
  ·exfalso;unfold bJ1 at h2;unfold aN aQ at h1;rw[h]at h1 h2;have h3:=List.mem_singleton.1 (List.contains_iff_mem.1 h1);rw[show 0 - 1=0 from rfl,h3]at h2;omega
  ·exact h
end Go.Proofs.YtikffmloeifkpaaGreatDoor
