/- Contracts. -/
import Derived.Test.YtikffmloeifkpaaGreatDoorQ30
import Derived.Test.YtikffmloeifkpaaGreatDoorQ32
import Derived.Test.YtikffmloeifkpaaGreatDoorQ45
import Derived.Test.YtikffmloeifkpaaGreatDoorQ24
set_option maxHeartbeats 4000000
set_option maxRecDepth 100000
namespace Go.Proofs.YtikffmloeifkpaaGreatDoor
open Go.RowKit Go.Lib Go.Deep Go.Maps Go.ChangeMaps Go.MapKept
theorem bF3{s:ByteArray}(hr:(eZ s).1=0):s.size<=4000/\(dN s).code=0/\(bP (aW s)).1.code=0/\(fO (rdT s) s.size).code=0:=by
 unfold eZ at hr
 by_cases h1:4000 < s.size
 ·rw[if_pos h1]at hr;cases hr
 rw[if_neg h1]at hr
 by_cases h2:(dN s).code≠0
 ·rw[if_pos h2]at hr;exact absurd hr h2
 rw[if_neg h2]at hr
 by_cases h3:(bP (aW s)).1.code≠0
 ·rw[if_pos h3]at hr;exact absurd hr h3
 rw[if_neg h3]at hr;exact⟨Oa,Oa,Oa,hr⟩
theorem bG3:∀ (k u:Nat),u < 10 ^ (k+1)->Lib.nDigits u<=k+1
 |0,u,h=>by rw[Lib.nDigits_small (by simpa using h)];exact Qc _
 |k+1,u,h=>by
  by_cases h1:u < 10
  ·rw[Lib.nDigits_small h1];omega
  ·have:=bG3 k (u / 10) (by rw[Nat.pow_succ]at h;omega);rw[Lib.nDigits_big h1];omega
theorem bJ6{s:ByteArray}(h1:s.size<=4000)(h2:(dN s).code=0):∀ t∈aW s,(spC t).length<=4000:=by
 intro t ht;have h5:=mV h2 h1;unfold aW at ht;rcases List.mem_append.1 ht with hw|hw
 ·rcases bFC s h2 t hw with⟨hk,_⟩|⟨hk,h4,u,hu,hv⟩|⟨k,h3,h33,hk,h4,hv⟩
  ·unfold spC;rw[if_pos hk];exact h5.text t (List.mem_append_left _ hw)
  ·unfold spC;rw[Oh,if_pos hk,hv];unfold Lib.itoa;rw[Oh,Int.toNat_natCast,Lib.decDigits_length];have:=bG3 9 u Oa;omega
  ·have h0:(List.range 34).all (fun k=>decide ((spL k).length<=4000))=true:=by decide+kernel
   have h1:=List.all_eq_true.1 h0 k (List.mem_range.2 Oa);unfold spC;rw[Oh,Oh,hk,Int.toNat_natCast];exact of_decide_eq_true h1
 ·rw[List.mem_singleton]at hw;subst hw;show(spL 0).length<=4000
  decide
theorem bH3:∀ (l:List Tok),(∀ t∈l,(spC t).length<=4000)->(bEM l).length<=l.length*4001
 |[],_=>Qe _
 |[_],_=>Qe _
 |t::u::l,h=>by
  have h1:=bH3 (u::l) (fun x hx=>h x (Ql _ hx));have h2:=h t Qj;show(spC t++bET t.kind u.kind::bEM (u::l)).length<=_;rw[List.length_append,List.length_cons];simp only[List.length_cons]at h1 ⊢;omega
theorem bH4{s:ByteArray}(h1:s.size<=4000)(h2:(dN s).code=0)(i:Nat):(bEM ((aW s).take i)).length<=50000000:=by
 have h3:=bH3 ((aW s).take i) (fun t ht=>bJ6 h1 h2 t (List.mem_of_mem_take ht));have h4:=(mV h2 h1).few;have h5:((aW s).take i).length<=(aW s).length:=by rw[List.length_take];omega
 have h6:((aW s).take i).length*4001<=5000*4001:=Nat.mul_le_mul_right _ Oa;omega
theorem bI2{t:Tok}(h:bEY t):t.kind≠0:=by
 rcases h with⟨hk,_⟩|⟨hk,_⟩|⟨k,h3,_,hk,_⟩<;>omega
theorem bGY{s:ByteArray}(hr:(eZ s).1=0):bHC (prT s).data.toList/\(∃ h:0 < (prT s).size,((prT s)[(prT s).size - 1]'Oa).toNat=10)/\(prT s).size<=50000000:=by
 obtain⟨h1,h2,h3,h4⟩:=bF3 hr;have hw:=bFC s h2
 have hz:(prT s).size<=50000000:=by
  have:=bH4 h1 h2 (aW s).length;rw[List.take_length]at this;show(bEM (aW s)).toArray.size<=_;rw[List.size_toArray];exact this
 refine⟨bHU _ _ hw,?_,hz⟩;have h8:=mV h2 h1;have hlen:(aW s).length=(dN s).words.length+1:=by simp[aW]
 have hk:∀ j,(dD (aW s) j).kind=0->j < (aW s).length->j=(dN s).words.length:=fun j h0 hj=>by
  rcases Qk j (dN s).words.length with h|h
  ·exfalso
   have e:dD (aW s) j=(dN s).words[j]:=by
    unfold dD aW;rw[List.getD_eq_getElem?_getD,List.getElem?_append_left h,List.getElem?_eq_getElem h];rfl
   exact bI2 (hw _ (List.getElem_mem h)) (by rw[<-e];exact h0)
  ·omega
 have h0:aN (aW s) rd0 [0]=false:=by
  rw[Bool.eq_false_iff];intro hs;have hs2:(dD (aW s) 0).kind=0:=List.mem_singleton.1 (List.contains_iff_mem.1 hs)
  have h9:rdT s= .nil:=by
   show gE (aJ (aW s) (iH (aW s) (bY (aW s)) 6) (bY (aW s)) (bY (aW s)) rd0).2= .nil;rw[show bY (aW s)=(aW s).length*16+15+1 from rfl];unfold aJ;rw[if_pos hs];rfl
  rw[h9]at h4;have e:(eK (dB BT.nil) (fC BT.nil) rF).isSome=false:=by decide+kernel
  unfold fO at h4;rw[e,if_neg Ob]at h4;exact absurd h4 (show ¬(4:Int)=0 by decide)
 obtain⟨j,hj,k2,k0,k1⟩:=bGM h8 (lI s) Oa h0 h3;have h6:=hk j k2 hj
 obtain⟨l,a,h5⟩:∃ l a,(dN s).words=l++[a]:=by
  have:(dN s).words≠[]:=fun h=>by rw[h]at h6;exact absurd h6 (by simpa using Nat.pos_iff_ne_zero.1 k0)
  exact⟨_,_,(List.dropLast_concat_getLast this).symm⟩
 have ha:dD (aW s) (j - 1)=a:=by
  have:j - 1=l.length:=by rw[h6,h5];simp
  unfold dD aW;rw[this,h5];simp
 rw[ha]at k1
 have hT:aW s=l++[a,⟨0,s.size,ByteArray.mk #[],0⟩]:=by
  unfold aW;rw[h5];simp
 have hb:(prT s).data.toList=(bEM (l++[a])++spC a)++[10]:=by
  show bEM (aW s)=_;rw[hT,bF4,List.append_assoc]
  congr 2
  show[bET a.kind 0]=[10];unfold bET;rw[if_pos ⟨Oa,Ob⟩]
 have h7:(prT s).size=(bEM (l++[a])++spC a).length+1:=by
  show(prT s).data.toList.length=_;rw[hb,List.length_append];rfl
 refine⟨Oa,?_⟩
 have hg:(prT s).data.toList[(prT s).size - 1]?=some 10:=by
  rw[hb,h7,Nat.add_sub_cancel,List.getElem?_append_right Ol,Nat.sub_self];rfl
 have k3:(prT s).data.toList[(prT s).size - 1]?=some ((prT s)[(prT s).size - 1]'Oa):=List.getElem?_eq_getElem (by show(prT s).size - 1 < (prT s).size;omega);rw[k3]at hg;rw[Oq hg];rfl
theorem bFS{ab:Nat}{s:ByteArray}{w:World}(h:PgW ab s w)(hc:(eZ s).1=0)(hT:Tab w)(hP:P10 w):Calls Tryz.prog 29 #[.pointer (some ⟨ab,0,none⟩)] w fun e w'=>e= .returned (.string (prT s))/\Below w.heap.size w w':=by
 obtain⟨H,g,cap,pb,t,vA,vF,vS,h6,hp⟩:=h.ex;obtain⟨h1,h2,h3,h4⟩:=bF3 hc;have c0:w.cell? ⟨ab,0,none⟩=some (.slice (some ⟨g,0,none⟩) (aW s).length cap):=Og h6 rfl
 have c1:w.cell? ⟨ab,1,none⟩=some (.pointer (some ⟨pb,0,none⟩)):=Og h6 rfl
 obtain⟨cur,h0,_⟩:=hp.toks.row;have h5:(aW s).length=(dN s).words.length+1:=by simp[aW]
 have hJ:=bJ2 w hp.toks hT hP (fun i hi=>by
  have e:(aW s)[i]=(dN s).words[i]'Oa:=by
   unfold aW;rw[List.getElem_append_left Oa]
  rw[e];exact bFC s h2 _ (List.getElem_mem _)) (fun i=>bH4 h1 h2 _) (Oo h0)
 have hN:=yZ ab pb w c1;clear hp h6 hT hP h1 h2 h3 h4 h0 h5;go_enter Tryz.func29,Tryz.ntmps29
 go_wp2_with fail
 refine hN.mono ?_;rintro e w' ⟨rfl,rfl⟩;clear hN;go_wp2_with fail
 refine hJ.mono ?_;rintro e W2 ⟨rfl,b2⟩;clear hJ c0 c1;go_wp2;go_ret;exact⟨rfl,b2⟩
theorem bIU:∀ t:Tr,ep (er t)=ep t
 | .nil=>rfl
 | .node b o a l r=>by
  show BT.node 0 0 (epN a) (ep (er l)) (ep (er r))=BT.node 0 0 (epN a) (ep l) (ep r);rw[bIU l,bIU r]
theorem bIB{t u:Tr}(h:ep t=ep u):gJ (tK t)=gJ (tK u):=by
 have e:ep (tK t)=ep (tK u):=by
  unfold tK;rw[<-bF2,<-bF2,<-bFJ,<-bFJ,h,<-bFG t,<-bFG u,h]
 rw[<-bF9,e,bF9]
theorem bG8{ab:Nat}{s:ByteArray}{w:World}(h:PgW ab s w)(hc:(eZ s).1=0):Calls Tryz.prog 31 #[.pointer (some ⟨ab,0,none⟩)] w fun e w'=>e= .returned (.int .i64 (gJ (tK (rdT s)):Nat))/\∃ n,w'=w.drewN n:=by
 obtain⟨H,g,cap,pb,t,vA,vF,vS,h6,hp⟩:=h.ex;have hg:=good hp.er hc;obtain⟨j,hj,hm⟩:=hg.main;have h0:=Qi hm;obtain⟨b,o,a,l,x,y,z,p,q,e1,h17,hl,_⟩:=hg.fl h0;obtain⟨it,vA',vF',mm,vS',H9,h4,_,h7⟩:=(hp.pgx hg).prog;obtain⟨g9,cp9,cb,o9,a9,l9,x9,y9,z9,pw,qb,h1,hgj,e9,h5⟩:=h7.get hm
 have pF:w.cell? ⟨pb,2,none⟩=some (.slice (some ⟨g9,0,none⟩) (gG t).length cp9):=by
  rw[cell_of_row _ _ _ _ _ _ h4,<-h1];rfl
 have pm:w.cell? ⟨pb,3,none⟩=some (.int .i64 j):=by
  rw[cell_of_row _ _ _ _ _ _ hp.prog,<-hj];rfl
 have c1:w.cell? ⟨ab,1,none⟩=some (.pointer (some ⟨pb,0,none⟩)):=Og h6 rfl
 have hN:=yZ ab pb w c1;rw[e1]at e9;cases e9;obtain⟨ao,cpp,h2⟩:=hl.lstval Ou
 have c3:w.cell? ⟨b,3,none⟩=some (.slice ao (aD l) cpp):=by
  obtain⟨cs,h8,hn,h3,_⟩:=h5;rw[cell_of_row _ _ _ _ _ _ h8,<-h2];exact h3
 have hR:Hid (gJ (tK (rdT s))=aD l):=by
  rw[Hid,bIB (t:=rdT s) (u:=t) (by rw[<-hp.er,bIU]),e1];rfl
 have hlt:=(List.getElem?_eq_some_iff.1 hm).1;have hjI:0<=(j:Int)/\(j:Int) < ((gG t).length:Int):=Oa
 generalize (gG t).length=L at*;clear h7 h4 hp h6 hg hm h0 hl h5 e1 h1 h2 hj;go_enter Tryz.func31,Tryz.ntmps31
 go_wp2_with fail
 refine hN.mono ?_;rintro e w' ⟨rfl,rfl⟩;clear hN;go_upto_region 3 with fail
 go_quiet (fail)
 go_wp2;go_ret;rw[hR.out];exact⟨rfl,_,rfl⟩
end Go.Proofs.YtikffmloeifkpaaGreatDoor
