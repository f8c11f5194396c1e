/- Contracts. -/
import Derived.Test.YtikffmloeifkpaaGreatDoorQ30
import Derived.Test.YtikffmloeifkpaaGreatDoorQ31
namespace Go.Proofs.YtikffmloeifkpaaGreatDoor
open Go.RowKit Go.Lib Go.Deep
def plB(b:UInt8):Prop:=(97<=b.toNat/\b.toNat<=122)\/(65<=b.toNat/\b.toNat<=90)\/(48<=b.toNat/\b.toNat<=57)\/b.toNat=95\/128<=b.toNat
instance (b:UInt8):Decidable (plB b):=by unfold plB;infer_instance
def bIE(w:List UInt8):Prop:=(w≠[]/\∀ b∈w,plB b)\/∃ i:Nat,i < 22/\w=spL (12+i)
theorem bK4{x:Ch}(h:bHE x)(hl:ldB x=true):∀ b∈x.bs,plB b:=by
 have h7:x.r<=591:=by
  simp only[ldB,oK,kZ,Bool.or_eq_true,decide_eq_true_eq]at hl;omega
 obtain⟨hd,_⟩:=h.2 ⟨x.bs.toArray⟩ 0 (by show 0+x.bs.length<=x.bs.toArray.size;simp) Od;have h0:=List.length_pos_iff.2 h.1;have hp:0 < (⟨x.bs.toArray⟩:ByteArray).size:=by show 0 < x.bs.toArray.size;simpa using h0
 have hg:∀ i (hi:i < x.bs.length),(⟨x.bs.toArray⟩:ByteArray)[i]'(by show i < x.bs.toArray.size;simpa using hi)=x.bs[i]:=fun i hi=>rfl;rcases bFL hp (by rw[hd];exact h7)with⟨h1,h2⟩|⟨hz,h1,h2,h3,h4⟩
 ·rw[hd]at h2;have h5:x.bs.length=1:=congrArg Prod.snd h2;have h6:x.r=_:=congrArg Prod.fst h2;obtain⟨b,hb⟩:=List.length_eq_one_iff.1 h5;intro c hc;rw[hb,List.mem_singleton]at hc;subst hc;rw[hg 0 h0]at h6 h1;simp only[hb,List.getElem_cons_zero]at h6 h1;simp only[ldB,oK,kZ,Bool.or_eq_true,decide_eq_true_eq]at hl;unfold plB;omega
 ·rw[hd]at h4;have h5:x.bs.length=2:=congrArg Prod.snd h4
  obtain⟨a,b,hb⟩:∃ a b,x.bs=[a,b]:=by
   match hx:x.bs,h5 with
   |[a,b],_=>exact⟨a,b,rfl⟩
  have e0:=hg 0 Oa;have e1:=hg 1 Oa;rw[e0]at h1;rw[e1]at h2;simp only[hb,List.getElem_cons_zero,List.getElem_cons_succ]at h1 h2;intro c hc;rw[hb]at hc;simp only[List.mem_cons,List.not_mem_nil,or_false]at hc;unfold plB;rcases hc with rfl|rfl<;>omega
theorem bJ3{t:Tok}(ht:bEY t):bIE (spC t):=by
 rcases ht with⟨hk,hv,L,hL,h2,hr,hs⟩|⟨hk,h2,u,hu,hv⟩|⟨k,h3,h33,hk,h2,hv⟩
 ·have e:spC t=bEJ L:=by unfold spC;rw[if_pos hk,h2]
  rw[e];refine .inl ⟨?_,fun b hb=>?_⟩
  ·obtain⟨x,l,rfl,hx⟩:=hL.head;intro h0;have:=(hL.ok x Qj).1.1;unfold bEJ at h0;rw[List.flatMap_cons,List.append_eq_nil_iff]at h0;exact this h0.1
  ·unfold bEJ at hb;obtain⟨x,hx,hb⟩:=List.mem_flatMap.1 hb;exact bK4 (hL.ok x hx).1 (hL.ok x hx).2 b hb
 ·have e:spC t=Lib.decDigits u:=by
   unfold spC;rw[Oh,if_pos hk,hv];unfold Lib.itoa;rw[Oh,Int.toNat_natCast]
  rw[e];exact .inl ⟨bIV u,fun b hb=>by have:=bGR u b hb;unfold plB;omega⟩
 ·have e:spC t=spL k:=by
   unfold spC;rw[Oh,Oh,hk,Int.toNat_natCast]
  rw[e]
  by_cases h12:12<=k
  ·exact .inr ⟨k - 12,Oa,by rw[show 12+(k - 12)=k by omega]⟩
  ·left;have h4:(List.range 12).all (fun k=>decide (k < 3)||(decide (spL k≠[])&&(spL k).all fun b=>decide (plB b)))=true:=by decide+kernel
   have h1:=List.all_eq_true.1 h4 k (List.mem_range.2 Oa);simp only[Bool.or_eq_true,Bool.and_eq_true,decide_eq_true_eq,List.all_eq_true]at h1;exact h1.resolve_left Oa
theorem bIN{w:List UInt8}(h:bIE w):∀ b∈w,b.toNat≠32/\b.toNat≠10:=by
 rcases h with⟨_,h⟩|⟨i,hi,rfl⟩
 ·intro b hb;have:=h b hb;unfold plB at this;omega
 ·have h0:(List.range 22).all (fun i=>(spL (12+i)).all fun b=>decide (b.toNat≠32/\b.toNat≠10))=true:=by decide+kernel
  intro b hb;have h1:=List.all_eq_true.1 h0 i (List.mem_range.2 hi);exact of_decide_eq_true (List.all_eq_true.1 h1 b hb)
def bHC(C:List UInt8):Prop:=∃ Ps:List (List UInt8 × UInt8),C=Ps.flatMap (fun p=>p.1++[p.2])/\∀ p∈Ps,bIE p.1/\(p.2.toNat=32\/p.2.toNat=10)
theorem bHU:∀ (l:List Tok) (e:Tok),(∀ t∈l,bEY t)->bHC (bEM (l++[e]))
 |[],e,_=>⟨[],rfl,fun _ h=>by cases h⟩
 |t::l,e,h=>by
  obtain⟨Ps,h1,h2⟩:=bHU l e (fun x hx=>h x (Ql _ hx));obtain⟨u,m,h0⟩:∃ u m,l++[e]=u::m:=by cases l<;>exact⟨_,_,rfl⟩
  refine⟨(spC t,bET t.kind u.kind)::Ps,?_,fun p hp=>?_⟩
  ·rw[List.cons_append,h0];show spC t++bET t.kind u.kind::bEM (u::m)=_;rw[<-h0,h1];simp
  ·rcases List.mem_cons.1 hp with rfl|hp
   ·exact⟨bJ3 (h t Qj),by rcases bHW t.kind u.kind with e|e<;>(simp only[e];decide)⟩
   ·exact h2 p hp
def bID(B C:List UInt8):Prop:=(B=[]/\C=[])\/∃ D g E,C=D++g::E/\bIE (B++D)/\(g.toNat=32\/g.toNat=10)/\bHC E
theorem bFY{C:List UInt8}(h:bHC C):bID [] C:=by
 obtain⟨Ps,rfl,h2⟩:=h;cases Ps with
 |nil=>exact .inl ⟨rfl,rfl⟩
 |cons p Ps=>
  refine .inr ⟨p.1,p.2,Ps.flatMap (fun p=>p.1++[p.2]),Od,(h2 p Qj).1,(h2 p Qj).2,Ps,rfl,fun q hq=>h2 q (Ql _ hq)⟩
theorem bI9{B C:List UInt8}{c:UInt8}(h:bID B (c::C)):(c.toNat≠32/\c.toNat≠10/\bID (B++[c]) C)\/((c.toNat=32\/c.toNat=10)/\bIE B/\bHC C):=by
 rcases h with⟨_,h⟩|⟨D,g,E,h1,h2,h3,h4⟩
 ·cases h
 ·cases D with
  |nil=>
   simp only[List.nil_append,List.cons.injEq]at h1;obtain⟨rfl,rfl⟩:=h1;rw[List.append_nil]at h2;exact .inr ⟨h3,h2,h4⟩
  |cons d D=>
   simp only[List.cons_append,List.cons.injEq]at h1;obtain⟨rfl,rfl⟩:=h1;have hb:=bIN h2 c Od;exact .inl ⟨hb.1,hb.2,.inr ⟨D,g,E,rfl,by rw[List.append_assoc];exact h2,h3,h4⟩⟩
end Go.Proofs.YtikffmloeifkpaaGreatDoor
