/- Contracts. -/
import Derived.Test.YtikffmloeifkpaaGreatDoorQ26
import Derived.Lib.ItoaNum
import Derived.Test.YtikffmloeifkpaaGreatDoorQ06
import Derived.Test.YtikffmloeifkpaaGreatDoorQ04
namespace Go.Proofs.YtikffmloeifkpaaGreatDoor
open Go.RowKit Go.Lib
def bHE(x:Ch):Prop:=x.bs≠[]/\∀ (s:ByteArray) (p:Nat),p+x.bs.length<=s.size->(s.data.toList.take (p+x.bs.length)).drop p=x.bs->Utf8.decode s p=(x.r,x.bs.length)/\vH s p x.r=false
def bEJ(l:List Ch):List UInt8:=l.flatMap Ch.bs
theorem bHY{s:ByteArray}:∀ (l:List Ch) (p:Nat),(∀ x∈l,bHE x)->p<=s.size->s.data.toList.drop p=bEJ l->aW0 s p l
 |[],p,_,hp,h=>by
  have:s.data.toList.length<=p:=by simpa[bEJ]using h
  have hz:s.size=s.data.toList.length:=rfl;show p=s.size;omega
 |x::l,p,hc,hp,h=>by
  obtain⟨h4,h1⟩:=hc x Qj;have hx:0 < x.bs.length:=List.length_pos_iff.2 h4;have h2:s.data.toList.drop p=x.bs++bEJ l:=h;have hz:s.size=s.data.toList.length:=rfl
  have h0:p+x.bs.length<=s.size:=by
   have:=congrArg List.length h2;rw[List.length_drop,List.length_append]at this;omega
  have h3:(s.data.toList.take (p+x.bs.length)).drop p=x.bs:=by
   rw[List.drop_take,h2];simp
  obtain⟨e1,e2⟩:=h1 s p h0 h3;refine⟨Oa,e1,e2,h3,bHY l _ (fun y hy=>hc y (Ql _ hy)) h0 ?_⟩;rw[<-List.drop_drop,h2];simp
theorem bGG(l:List UInt8):bEJ (asc l)=l:=by
 induction l with
 |nil=>rfl
 |cons b l ih=>show b::bEJ (asc l)=_;rw[ih]
theorem bIZ{b:UInt8}(h:b.toNat < 128):bHE ⟨b.toNat,[b]⟩:=by
 refine⟨Od,fun s p hp hx=>?_⟩;have h0:p < s.size:=by have:p+1<=s.size:=hp;omega
 have hb:s[p]=b:=by
  have h2:(s.data.toList.take (p+1)).drop p=[b]:=hx;rw[List.drop_take,List.drop_eq_getElem_cons (by exact h0)]at h2;have h1:s.data[p]'(by exact h0)=b:=by simpa using h2
  exact h1
 refine⟨?_,?_⟩
 ·rw[decode_ascii s p h0 (by rw[hb];exact h),hb];rfl
 ·unfold vH;rw[decide_eq_false (by show ¬((b.toNat:Int)=65533);omega)];rfl
theorem bGT{l:List UInt8}(h:∀ b∈l,b.toNat < 128):∀ x∈asc l,bHE x:=by
 intro x hx;obtain⟨b,hb,rfl⟩:=List.mem_map.1 hx;exact bIZ (h b hb)
theorem bHT(W:List Tok)(p:Nat):∀ (l acc:List UInt8) (k:Nat),(∀ b∈l,48<=b.toNat/\b.toNat<=57)->LS.run ⟨W,false,p,3,acc,k⟩ (asc l)=⟨W,false,p,3,acc++l,k+l.length⟩
 |[],acc,k,_=>by simp[asc,LS.run]
 |b::l,acc,k,h=>by
  have hb:=h b Qj;show LS.run (LS.step ⟨W,false,p,3,acc,k⟩ ⟨b.toNat,[b]⟩) (asc l)=_
  have hs:LS.step ⟨W,false,p,3,acc,k⟩ ⟨b.toNat,[b]⟩=⟨W,false,p,3,acc++[b],k+1⟩:=by
   unfold LS.step;rw[if_pos (show LS.goes _ _=true by show kZ (b.toNat:Int)=true;unfold kZ;exact decide_eq_true Oa)];rfl
  rw[hs,bHT W p l _ _ (fun x hx=>h x (Ql _ hx))];simp;omega
theorem bGR:∀ (u:Nat),∀ b∈Lib.decDigits u,48<=b.toNat/\b.toNat<=57:=by
 intro u
 induction u using Nat.strongRecOn with
 |_ u ih=>
  intro b hb;have one:∀ k,k < 10->48<=(UInt8.ofNat (48+k)).toNat/\(UInt8.ofNat (48+k)).toNat<=57:=fun k hk=>by rw[UInt8.toNat_ofNat',Nat.mod_eq_of_lt Oa];omega
  by_cases h:u < 10
  ·rw[Lib.decDigits,dif_pos h,List.mem_singleton]at hb;rw[hb];exact one u h
  ·rw[Lib.decDigits,dif_neg h,List.mem_append]at hb;rcases hb with hb|hb
   ·exact ih (u / 10) Oa b hb
   ·rw[List.mem_singleton]at hb;rw[hb];exact one _ Oa
theorem bIV(u:Nat):Lib.decDigits u≠[]:=by
 rw[Lib.decDigits]
 split<;>simp
theorem bJG:∀ (u:Nat),u<=999999999->bCW (Lib.decDigits u)=u:=by
 intro u
 induction u using Nat.strongRecOn with
 |_ u ih=>
  intro hu;have one:∀ k,k < 10->((UInt8.ofNat (48+k)).toNat:Int) - 48=k:=fun k hk=>by rw[UInt8.toNat_ofNat',Nat.mod_eq_of_lt Oa];omega
  by_cases h:u < 10
  ·rw[Lib.decDigits,dif_pos h];show min (0*10+(((UInt8.ofNat (48+u)).toNat:Int) - 48)) 1000000000=_;rw[one u h];omega
  ·rw[Lib.decDigits,dif_neg h];have h1:=ih (u / 10) Oa Oa;unfold bCW at h1 ⊢;rw[List.foldl_append,h1];show min (((u / 10:Nat):Int)*10+(((UInt8.ofNat (48+u % 10)).toNat:Int) - 48)) 1000000000=_;rw[one _ Oa];omega
theorem bIP(W:List Tok)(st p:Nat)(acc:List UInt8){u:Nat}(hu:u<=999999999)(g:UInt8)(hg:g=32\/g=10):
 LS.run ⟨W,false,st,0,acc,p⟩ (asc (Lib.decDigits u++[g]))=⟨⟨2,p,ByteArray.mk #[],u⟩::W,false,p+(Lib.decDigits u).length,0,[g],p+(Lib.decDigits u).length+1⟩:=by
 have hd:=bGR u;have h0:=bIV u;have hn:=bJG u hu;generalize Lib.decDigits u=l at*;cases l with
 |nil=>exact absurd rfl h0
 |cons b l=>
  have hb:=hd b Qj;show LS.run (LS.step ⟨W,false,st,0,acc,p⟩ ⟨b.toNat,[b]⟩) (asc (l++[g]))=_
  have hs:LS.step ⟨W,false,st,0,acc,p⟩ ⟨b.toNat,[b]⟩=⟨W,false,p,3,[b],p+1⟩:=by
   unfold LS.step;rw[if_neg (show ¬LS.goes _ _=true by show ¬false=true;simp)];show({LS.begins ⟨W,false,st,0,acc,p⟩ (b.toNat:Int)with acc:=[b],p:=p+1}:LS)=_;unfold LS.begins;rw[if_neg (show ¬aA0 (b.toNat:Int)=true by unfold aA0;simp;omega),Oh,if_neg (show ¬oK (b.toNat:Int)=true by unfold oK;simp;omega),if_pos (show kZ (b.toNat:Int)=true by unfold kZ;simp;omega)]
  rw[hs,show asc (l++[g])=asc l++asc [g]from List.map_append,LS.run_append,bHT W p l _ _ (fun x hx=>hd x (Ql _ hx))];show LS.step ⟨W,false,p,3,[b]++l,p+1+l.length⟩ ⟨g.toNat,[g]⟩=_;unfold LS.step;have h1:kZ (g.toNat:Int)=false:=by rcases hg with rfl|rfl<;>decide
  rw[if_neg (show ¬LS.goes _ _=true by show ¬kZ (g.toNat:Int)=true;rw[h1];simp)]
  have hf:LS.finish ⟨W,false,p,3,[b]++l,p+1+l.length⟩=⟨⟨2,p,ByteArray.mk #[],u⟩::W,false,p,3,[b]++l,p+1+l.length⟩:=by
   show(if 999999999 < bCW ([b]++l)then _ else LS.push _ 2 (bCW ([b]++l)) _)=_;rw[show[b]++l=b::l from rfl,hn,Oh];rfl
  rw[hf];rcases hg with rfl|rfl<;>(simp[LS.begins,aA0];omega)
def bEL(k:Nat)(g:UInt8):Prop:=∀ (W:List Tok) (st p:Nat) (acc:List UInt8),LS.run ⟨W,false,st,0,acc,p⟩ (asc (spL k++[g]))=⟨⟨(k:Int),p,ByteArray.mk #[],0⟩::W,false,p+(spL k).length,0,[g],p+(spL k).length+1⟩
theorem fx3(g:UInt8)(hg:g=32\/g=10):bEL 3 g:=by rcases hg with rfl|rfl<;>(intro W st p acc;kernel_rfl)
theorem fx4(g:UInt8)(hg:g=32\/g=10):bEL 4 g:=by rcases hg with rfl|rfl<;>(intro W st p acc;kernel_rfl)
theorem fx5(g:UInt8)(hg:g=32\/g=10):bEL 5 g:=by rcases hg with rfl|rfl<;>(intro W st p acc;kernel_rfl)
theorem fx6(g:UInt8)(hg:g=32\/g=10):bEL 6 g:=by rcases hg with rfl|rfl<;>(intro W st p acc;kernel_rfl)
theorem fx7(g:UInt8)(hg:g=32\/g=10):bEL 7 g:=by rcases hg with rfl|rfl<;>(intro W st p acc;kernel_rfl)
theorem fx8(g:UInt8)(hg:g=32\/g=10):bEL 8 g:=by rcases hg with rfl|rfl<;>(intro W st p acc;kernel_rfl)
theorem fx9(g:UInt8)(hg:g=32\/g=10):bEL 9 g:=by rcases hg with rfl|rfl<;>(intro W st p acc;kernel_rfl)
theorem bKU(g:UInt8)(hg:g=32\/g=10):bEL 10 g:=by rcases hg with rfl|rfl<;>(intro W st p acc;kernel_rfl)
theorem bKT(g:UInt8)(hg:g=32\/g=10):bEL 11 g:=by rcases hg with rfl|rfl<;>(intro W st p acc;kernel_rfl)
theorem bKS(g:UInt8)(hg:g=32\/g=10):bEL 12 g:=by rcases hg with rfl|rfl<;>(intro W st p acc;kernel_rfl)
theorem bKR(g:UInt8)(hg:g=32\/g=10):bEL 13 g:=by rcases hg with rfl|rfl<;>(intro W st p acc;kernel_rfl)
theorem bKQ(g:UInt8)(hg:g=32\/g=10):bEL 14 g:=by rcases hg with rfl|rfl<;>(intro W st p acc;kernel_rfl)
theorem bKP(g:UInt8)(hg:g=32\/g=10):bEL 15 g:=by rcases hg with rfl|rfl<;>(intro W st p acc;kernel_rfl)
theorem bKO(g:UInt8)(hg:g=32\/g=10):bEL 16 g:=by rcases hg with rfl|rfl<;>(intro W st p acc;kernel_rfl)
theorem bKN(g:UInt8)(hg:g=32\/g=10):bEL 17 g:=by rcases hg with rfl|rfl<;>(intro W st p acc;kernel_rfl)
theorem bKM(g:UInt8)(hg:g=32\/g=10):bEL 18 g:=by rcases hg with rfl|rfl<;>(intro W st p acc;kernel_rfl)
theorem bKL(g:UInt8)(hg:g=32\/g=10):bEL 19 g:=by rcases hg with rfl|rfl<;>(intro W st p acc;kernel_rfl)
theorem bKK(g:UInt8)(hg:g=32\/g=10):bEL 20 g:=by rcases hg with rfl|rfl<;>(intro W st p acc;kernel_rfl)
theorem bKJ(g:UInt8)(hg:g=32\/g=10):bEL 21 g:=by rcases hg with rfl|rfl<;>(intro W st p acc;kernel_rfl)
theorem bKI(g:UInt8)(hg:g=32\/g=10):bEL 22 g:=by rcases hg with rfl|rfl<;>(intro W st p acc;kernel_rfl)
theorem bKH(g:UInt8)(hg:g=32\/g=10):bEL 23 g:=by rcases hg with rfl|rfl<;>(intro W st p acc;kernel_rfl)
theorem bKG(g:UInt8)(hg:g=32\/g=10):bEL 24 g:=by rcases hg with rfl|rfl<;>(intro W st p acc;kernel_rfl)
theorem bKF(g:UInt8)(hg:g=32\/g=10):bEL 25 g:=by rcases hg with rfl|rfl<;>(intro W st p acc;kernel_rfl)
theorem bKE(g:UInt8)(hg:g=32\/g=10):bEL 26 g:=by rcases hg with rfl|rfl<;>(intro W st p acc;kernel_rfl)
theorem bKD(g:UInt8)(hg:g=32\/g=10):bEL 27 g:=by rcases hg with rfl|rfl<;>(intro W st p acc;kernel_rfl)
theorem bKC(g:UInt8)(hg:g=32\/g=10):bEL 28 g:=by rcases hg with rfl|rfl<;>(intro W st p acc;kernel_rfl)
theorem bKB(g:UInt8)(hg:g=32\/g=10):bEL 29 g:=by rcases hg with rfl|rfl<;>(intro W st p acc;kernel_rfl)
theorem bKA(g:UInt8)(hg:g=32\/g=10):bEL 30 g:=by rcases hg with rfl|rfl<;>(intro W st p acc;kernel_rfl)
theorem bK9(g:UInt8)(hg:g=32\/g=10):bEL 31 g:=by rcases hg with rfl|rfl<;>(intro W st p acc;kernel_rfl)
theorem bK8(g:UInt8)(hg:g=32\/g=10):bEL 32 g:=by rcases hg with rfl|rfl<;>(intro W st p acc;kernel_rfl)
theorem bK7(g:UInt8)(hg:g=32\/g=10):bEL 33 g:=by rcases hg with rfl|rfl<;>(intro W st p acc;kernel_rfl)
theorem bHM{k:Nat}(hk:3<=k/\k<=33)(g:UInt8)(hg:g=32\/g=10):bEL k g:=by
 have h:k=3\/k=4\/k=5\/k=6\/k=7\/k=8\/k=9\/k=10\/k=11\/k=12\/k=13\/k=14\/k=15\/k=16\/k=17\/k=18\/k=19\/k=20\/k=21\/k=22\/k=23\/k=24\/k=25\/k=26\/k=27\/k=28\/k=29\/k=30\/k=31\/k=32\/k=33:=Oa
 rcases h with rfl|rfl|rfl|rfl|rfl|rfl|rfl|rfl|rfl|rfl|rfl|rfl|rfl|rfl|rfl|rfl|rfl|rfl|rfl|rfl|rfl|rfl|rfl|rfl|rfl|rfl|rfl|rfl|rfl|rfl|rfl
 ·exact fx3 g hg
 ·exact fx4 g hg
 ·exact fx5 g hg
 ·exact fx6 g hg
 ·exact fx7 g hg
 ·exact fx8 g hg
 ·exact fx9 g hg
 ·exact bKU g hg
 ·exact bKT g hg
 ·exact bKS g hg
 ·exact bKR g hg
 ·exact bKQ g hg
 ·exact bKP g hg
 ·exact bKO g hg
 ·exact bKN g hg
 ·exact bKM g hg
 ·exact bKL g hg
 ·exact bKK g hg
 ·exact bKJ g hg
 ·exact bKI g hg
 ·exact bKH g hg
 ·exact bKG g hg
 ·exact bKF g hg
 ·exact bKE g hg
 ·exact bKD g hg
 ·exact bKC g hg
 ·exact bKB g hg
 ·exact bKA g hg
 ·exact bK9 g hg
 ·exact bK8 g hg
 ·exact bK7 g hg
theorem bGP{s:ByteArray}{i:Nat}(h:i < s.size):s.get! i=s[i]:=by
 show s.data[i]! =s.data[i];exact getElem!_pos s.data i h
theorem bG4(s:ByteArray)(p:Nat)(h:p+2<=s.size)(h0:(s[p]'Oa).toNat / 32=6)(h1:(s[p+1]'Oa).toNat / 64=2)(hc:128<=((s[p]'Oa).toNat % 32)*64+(s[p+1]'Oa).toNat % 64):
 Utf8.decode s p=(((s[p]'Oa).toNat % 32)*64+(s[p+1]'Oa).toNat % 64,2):=by
 unfold Utf8.decode;have e0:s.get! (p+0)=s[p]'Oa:=bGP Oa;have e1:s.get! (p+1)=s[p+1]'Oa:=bGP Oa;dsimp only;simp only[e0,e1];generalize (s[p]'Oa).toNat=a at*;generalize (s[p+1]'Oa).toNat=b at*;rw[Oh,if_pos (by simp[h0,h1];omega),if_pos Oa]
theorem bFL{s:ByteArray}{p:Nat}(hp:p < s.size)(h:(Utf8.decode s p).1<=591):((s[p]'hp).toNat < 128/\Utf8.decode s p=((s[p]'hp).toNat,1))\/(∃ h2:p+2<=s.size,(s[p]'hp).toNat / 32=6/\(s[p+1]'Oa).toNat / 64=2/\128<=((s[p]'hp).toNat % 32)*64+(s[p+1]'Oa).toNat % 64/\Utf8.decode s p=(((s[p]'hp).toNat % 32)*64+(s[p+1]'Oa).toNat % 64,2)):=by
 by_cases ha:(s[p]'hp).toNat < 128
 ·exact .inl ⟨ha,decode_ascii s p hp ha⟩
 ·right;have e0:s.get! (p+0)=s[p]'hp:=bGP Oa;unfold Utf8.decode at h;dsimp only at h;simp only[e0]at h;rw[Oh]at h
  by_cases c1:((s[p]'hp).toNat / 32==6&&(decide (p+1 < s.size)&&(s.get! (p+1)).toNat / 64==2))=true
  ·rw[if_pos c1]at h;simp only[Bool.and_eq_true,beq_iff_eq,decide_eq_true_eq]at c1;obtain⟨d1,d2,d3⟩:=c1;have e1:s.get! (p+1)=s[p+1]'Oa:=bGP Oa;simp only[e1]at d3 h
   have hc:128<=((s[p]'hp).toNat % 32)*64+(s[p+1]'Oa).toNat % 64:=by
    by_cases hc:128<=((s[p]'hp).toNat % 32)*64+(s[p+1]'Oa).toNat % 64
    ·exact hc
    ·rw[Oh]at h;exact absurd h Ob
   exact⟨Oa,d1,d3,hc,bG4 s p Oa d1 d3 hc⟩
  ·exfalso;rw[if_neg c1]at h
   revert h
   repeat' split
   all_goals first|(intro h;exact absurd h Ob)|skip
   all_goals (rename_i hc;intro h;simp only[Bool.and_eq_true,decide_eq_true_eq]at hc;omega)
theorem bGZ{s:ByteArray}{p:Nat}{l:List UInt8}(h:p+l.length<=s.size)(hx:(s.data.toList.take (p+l.length)).drop p=l)(i:Nat)(hi:i < l.length):s[p+i]'Oa=l[i]:=by
 have h1:((s.data.toList.take (p+l.length)).drop p)[i]?=l[i]?:=by rw[hx]
 rw[List.getElem?_drop,List.getElem?_take,if_pos Oa,List.getElem?_eq_getElem (by exact(show p+i < s.size by omega)),List.getElem?_eq_getElem hi]at h1;have h2:=Oq h1;exact h2
theorem bHZ{s:ByteArray}{p:Nat}(hp:p < s.size)(h:(oK (Utf8.decode s p).1||kZ (Utf8.decode s p).1)=true):((s.data.toList.take (p+(Utf8.decode s p).2)).drop p).length=(Utf8.decode s p).2/\bHE ⟨(Utf8.decode s p).1,(s.data.toList.take (p+(Utf8.decode s p).2)).drop p⟩:=by
 have h0:(Utf8.decode s p).1<=591:=by
  simp only[oK,kZ,Bool.or_eq_true,decide_eq_true_eq]at h;omega
 have hz:s.size=s.data.toList.length:=rfl;rcases bFL hp h0 with⟨ha,hd⟩|⟨h2,d1,d2,d3,hd⟩
 ·rw[hd]
  have hb:(s.data.toList.take (p+1)).drop p=[s[p]'hp]:=by
   rw[List.drop_take,List.drop_eq_getElem_cons Oa];simp;rfl
  rw[hb];exact⟨rfl,bIZ ha⟩
 ·rw[hd]
  have hb:(s.data.toList.take (p+2)).drop p=[s[p]'hp,s[p+1]'Oa]:=by
   rw[List.drop_take,List.drop_eq_getElem_cons Oa,List.drop_eq_getElem_cons Oa];simp;exact⟨rfl,rfl⟩
  rw[hb];refine⟨rfl,Od,fun s' p' h1 hx=>?_⟩;have h4:p'+2<=s'.size:=h1;have q0:=bGZ h1 hx 0 Od;have q1:=bGZ h1 hx 1 Od;have q0:s'[p']'Oa=s[p]'hp:=q0;have q1:s'[p'+1]'Oa=s[p+1]'Oa:=q1;have h3:=bG4 s' p' h4 (by rw[q0];exact d1) (by rw[q1];exact d2) (by rw[q0,q1];exact d3);refine⟨by rw[h3,q0,q1];rfl,?_⟩;unfold vH;rw[decide_eq_false (by rw[hd]at h0;have h0:(s[p]'hp).toNat % 32*64+(s[p+1]'Oa).toNat % 64<=591:=h0;show ¬((((s[p]'hp).toNat % 32*64+(s[p+1]'Oa).toNat % 64:Nat):Int)=65533);omega)];rfl
def ldB(x:Ch):Bool:=oK x.r||kZ x.r
structure NmL(L:List Ch):Prop where
 ok:∀ x∈L,bHE x/\ldB x=true
 head:∃ x l,L=x::l/\oK x.r=true
def e00:ByteArray:=ByteArray.mk #[]
def bEY(t:Tok):Prop:=
 (t.kind=1/\t.value=0/\∃ L,NmL L/\t.text=⟨(bEJ L).toArray⟩/\Lib.runeCount t.text<=12/\spB (bEJ L)=false)\/
 (t.kind=2/\t.text=e00/\∃ u:Nat,u<=999999999/\t.value=u)\/
 (∃ k:Nat,3<=k/\k<=33/\t.kind=k/\t.text=e00/\t.value=0)
theorem bFF(l:List UInt8):∀ (n k:Nat),vT l k n=0\/(k<=vT l k n/\vT l k n < k+n)
 |0,k=> .inl rfl
 |n+1,k=>by
  show(if spL k=l then k else vT l (k+1) n)=0\/(k<=(if spL k=l then k else vT l (k+1) n)/\(if spL k=l then k else vT l (k+1) n) < k+(n+1))
  split
  ·exact .inr ⟨Qc _,Oa⟩
  ·rcases bFF l n (k+1)with h|h
   ·exact .inl h
   ·exact .inr Oa
theorem bF7{l:List UInt8}(h:spB l=true):3<=spK l/\spK l<=33:=by
 unfold spB at h;have h0:=of_decide_eq_true h;rcases bFF l 31 3 with h1|h1
 ·exact absurd h1 h0
 ·unfold spK;omega
structure WI(c:Cut)(p:Nat):Prop where
 words:∀ t∈c.words,bEY t
 name:c.mode=2->∃ L,NmL L/\(c.text.data.toList.take p).drop c.start.toNat=bEJ L
theorem bEW(c:Cut)(e p:Int)(he:e≠0):(c.fail e p).code≠0:=by
 unfold Cut.fail
 split
 ·exact he
 ·assumption
theorem bGC:∀ (l:List UInt8) (a:Int),wS l->0<=a->0<=l.foldl (fun a d=>min (a*10+((d.toNat:Int) - 48)) 1000000000) a
 |[],_,_,h=>h
 |d::l,a,hd,h=>by
  have h1:=hd d Qj;exact bGC l _ (fun x hx=>hd x (Ql _ hx)) (by show 0<=min (a*10+((d.toNat:Int) - 48)) 1000000000;omega)
theorem WI.finish{c:Cut}{p:Nat}(h:WI c p)(hf:vL c p)(h0:(c.finish p).code=0):∀ t∈(c.finish p).words,bEY t:=by
 unfold Cut.finish at h0 ⊢
 by_cases h2:c.mode=2
 ·rw[if_pos h2]at h0 ⊢;obtain⟨L,hL,hb⟩:=h.name h2
  have ht:c.text.extract c.start.toNat p=⟨(bEJ L).toArray⟩:=by
   have h1:(c.text.extract c.start.toNat p).data.toList=bEJ L:=by rw[Lib.extract_data,<-hb,List.drop_take]
   rw[<-h1]
  rw[ht]at h0 ⊢;unfold Cut.named at h0 ⊢
  by_cases ha:12 < Lib.runeCount ⟨(bEJ L).toArray⟩
  ·rw[if_pos ha]at h0;exact absurd h0 (bEW _ _ _ Ob)
  ·rw[if_neg ha]at h0 ⊢
   by_cases hs:spB (⟨(bEJ L).toArray⟩:ByteArray).data.toList=true
   ·rw[if_pos hs];intro t h5;rcases List.mem_append.1 h5 with h5|h5
    ·exact h.words t h5
    ·rw[List.mem_singleton]at h5;subst h5;exact .inr (.inr ⟨_,(bF7 hs).1,(bF7 hs).2,rfl,rfl,rfl⟩)
   ·rw[if_neg hs];intro t h5;rcases List.mem_append.1 h5 with h5|h5
    ·exact h.words t h5
    ·rw[List.mem_singleton]at h5;subst h5;exact .inl ⟨rfl,rfl,L,hL,rfl,by show Lib.runeCount ⟨(bEJ L).toArray⟩<=12;omega,by simpa using hs⟩
 rw[if_neg h2]at h0 ⊢
 by_cases h3:c.mode=3
 ·rw[if_pos h3]at h0 ⊢;have hd:=hf.digits h3;unfold Cut.number at h0 ⊢
  by_cases ha:999999999 < bCW (c.text.extract c.start.toNat p).data.toList
  ·rw[if_pos ha]at h0;exact absurd h0 (bEW _ _ _ Ob)
  ·rw[if_neg ha];have hp:=bGC _ 0 hd (Int.le_refl _);intro t h5;rcases List.mem_append.1 h5 with h5|h5
   ·exact h.words t h5
   ·rw[List.mem_singleton]at h5;subst h5;refine .inr (.inl ⟨rfl,rfl,(bCW (c.text.extract c.start.toNat p).data.toList).toNat,Oa,?_⟩);have hp:0<=bCW (c.text.extract c.start.toNat p).data.toList:=hp;show bCW _=((bCW _).toNat:Int);omega
 rw[if_neg h3]at h0 ⊢
 by_cases h4:c.mode=4
 ·rw[if_pos h4]at h0 ⊢;unfold Cut.sign at h0 ⊢
  by_cases hs:spB (c.text.extract c.start.toNat p).data.toList=true
  ·rw[if_pos hs];intro t h5;rcases List.mem_append.1 h5 with h5|h5
   ·exact h.words t h5
   ·rw[List.mem_singleton]at h5;subst h5;exact .inr (.inr ⟨_,(bF7 hs).1,(bF7 hs).2,rfl,rfl,rfl⟩)
  ·rw[if_neg hs]at h0;exact absurd h0 (bEW _ _ _ Ob)
 rw[if_neg h4];exact h.words
theorem bHA{c:Cut}{p r:Int}(h:(c.begins p r).code=0):c.code=0:=by
 unfold Cut.begins at h
 repeat' split at h
 all_goals first|exact h|(exfalso;exact bEW _ _ _ Ob h)
theorem WI.step{c:Cut}{p:Nat}(h:WI c p)(hf:vL c p)(hp:p < c.text.size)(h0:(c.step p (Utf8.decode c.text p).1).code=0):WI (c.step p (Utf8.decode c.text p).1) (p+(Utf8.decode c.text p).2):=by
 have hst:=hf.hi;unfold Cut.step at h0 ⊢
 by_cases hg:c.goes p (Utf8.decode c.text p).1=true
 ·rw[if_pos hg];refine⟨h.words,fun m=>?_⟩;obtain⟨L,hL,hb⟩:=h.name m
  have h6:(oK (Utf8.decode c.text p).1||kZ (Utf8.decode c.text p).1)=true:=by
   unfold Cut.goes at hg;rw[Oh,if_pos m]at hg;exact hg
  obtain⟨h1,h2⟩:=bHZ hp h6;refine⟨L++[⟨(Utf8.decode c.text p).1,(c.text.data.toList.take (p+(Utf8.decode c.text p).2)).drop p⟩],⟨fun x hx=>?_,?_⟩,?_⟩
  ·rcases List.mem_append.1 hx with hx|hx
   ·exact hL.ok x hx
   ·rw[List.mem_singleton]at hx;subst hx;exact⟨h2,h6⟩
  ·obtain⟨x,l,e,hl⟩:=hL.head;exact⟨x,l++[_],by rw[e];rfl,hl⟩
  ·have h7:c.start.toNat<=p:=Oa
   have h3:c.text.data.toList.take (p+(Utf8.decode c.text p).2)=c.text.data.toList.take p++((c.text.data.toList.take (p+(Utf8.decode c.text p).2)).drop p):=by
    conv=>lhs;rw[<-List.take_append_drop p (c.text.data.toList.take (p+(Utf8.decode c.text p).2))]
    rw[List.take_take,Nat.min_eq_left Oa]
   show(c.text.data.toList.take (p+(Utf8.decode c.text p).2)).drop c.start.toNat=_
   have h5:(c.text.data.toList.take p).length=p:=by
    have hz:c.text.size=c.text.data.toList.length:=rfl;rw[List.length_take];omega
   have h4:(c.text.data.toList.take (p+(Utf8.decode c.text p).2)).drop c.start.toNat=bEJ L++(c.text.data.toList.take (p+(Utf8.decode c.text p).2)).drop p:=by
    conv=>lhs;rw[h3]
    rw[List.drop_append,hb,h5,Nat.sub_eq_zero_of_le h7];rfl
   rw[h4];unfold bEJ;rw[List.flatMap_append];simp
 ·rw[if_neg hg]at h0 ⊢;have h8:(c.finish p).code=0:=bHA h0;obtain⟨b1,b2,b3,_⟩:=(c.finish p).begins_keeps p (Utf8.decode c.text p).1;obtain⟨f1,_⟩:=c.finish_keeps p;refine⟨by rw[b3];exact h.finish hf h8,fun m=>?_⟩
  have hl:oK (Utf8.decode c.text p).1=true:=by
   unfold Cut.begins at m h0
   by_cases q1:aA0 (Utf8.decode c.text p).1=true
   ·rw[if_pos q1]at m;exact absurd m (show ¬(0:Int)=2 by decide)
   rw[if_neg q1]at m h0
   by_cases q2:((Utf8.decode c.text p).1:Int)=35
   ·rw[if_pos q2]at m;exact absurd m (show ¬(1:Int)=2 by decide)
   rw[if_neg q2]at m h0
   by_cases q3:oK (Utf8.decode c.text p).1=true
   ·exact q3
   rw[if_neg q3]at m h0
   by_cases q4:kZ (Utf8.decode c.text p).1=true
   ·rw[if_pos q4]at m;exact absurd m (show ¬(3:Int)=2 by decide)
   rw[if_neg q4]at m h0
   by_cases q5:bsB (Utf8.encode (Utf8.decode c.text p).1).data.toList=true
   ·rw[if_pos q5]at m;exact absurd m (show ¬(4:Int)=2 by decide)
   rw[if_neg q5]at h0;exact absurd h0 (bEW _ _ _ Ob)
  obtain⟨h1,h2⟩:=bHZ hp (by rw[hl];rfl);refine⟨[⟨(Utf8.decode c.text p).1,(c.text.data.toList.take (p+(Utf8.decode c.text p).2)).drop p⟩],⟨fun x hx=>?_,⟨_,[],rfl,hl⟩⟩,?_⟩
  ·rw[List.mem_singleton]at hx;subst hx;exact⟨h2,by unfold ldB;rw[hl];rfl⟩
  ·rw[b2,b1,f1,Int.toNat_natCast];simp[bEJ]
theorem bJS(s:ByteArray):∀ (n:Nat) (c:Cut) (p:Nat),c.text=s->vL c p->WI c p->s.size - p < n->(c.run n p).code=0->∀ t∈(c.run n p).words,bEY t:=by
 intro n
 induction n with
 |zero=>intro c p _ _ _ h;omega
 |succ n ih=>
  intro c p hs hf h hn hc;unfold Cut.run at hc ⊢;rw[hs]at hc ⊢
  by_cases hp:p < s.size
  ·rw[if_pos hp]at hc ⊢
   by_cases h0:(c.step p (Utf8.decode s p).1).code=0
   ·rw[Oh]at hc ⊢;have hw:=Lib.decode_width_pos s p hp;obtain⟨f1,f2⟩:=hf.step (by rw[hs];exact hp) (by rw[hs];exact h0);have f3:=h.step hf (by rw[hs];exact hp) (by rw[hs];exact h0);rw[hs]at f1 f2 f3;exact ih _ _ f2 f1 f3 Oa hc
   ·rw[if_pos h0]at hc;exact absurd hc h0
  ·rw[if_neg hp]at hc ⊢;have h1:=hf.le;rw[hs]at h1;have:p=s.size:=Oa
   subst this;exact h.finish hf hc
theorem bFC(s:ByteArray)(hc:(dN s).code=0):∀ t∈(dN s).words,bEY t:=
 bJS s _ _ 0 rfl (vL.start s) ⟨fun t ht=>(by cases ht),fun m=>absurd m (show ¬(0:Int)=2 by decide)⟩ Oa hc
theorem bJL(W:List Tok)(p:Nat):∀ (L:List Ch) (acc:List UInt8) (k:Nat),(∀ x∈L,ldB x=true)->LS.run ⟨W,false,p,2,acc,k⟩ L=⟨W,false,p,2,acc++bEJ L,k+(bEJ L).length⟩
 |[],acc,k,_=>by simp[bEJ,LS.run]
 |x::L,acc,k,h=>by
  show LS.run (LS.step ⟨W,false,p,2,acc,k⟩ x) L=_
  have hs:LS.step ⟨W,false,p,2,acc,k⟩ x=⟨W,false,p,2,acc++x.bs,k+x.bs.length⟩:=by
   unfold LS.step;rw[if_pos (show LS.goes ⟨W,false,p,2,acc,k⟩ (x.r:Int)=true from h x Qj)]
  rw[hs,bJL W p L _ _ (fun y hy=>h y (Ql _ hy))];show _=(⟨W,false,p,2,acc++(x.bs++bEJ L),k+(x.bs++bEJ L).length⟩:LS);rw[List.append_assoc,List.length_append,Nat.add_assoc]
theorem bIA(W:List Tok)(st p:Nat)(acc:List UInt8){L:List Ch}(h:NmL L)(hr:Lib.runeCount ⟨(bEJ L).toArray⟩<=12)(hs:spB (bEJ L)=false)(g:UInt8)(hg:g=32\/g=10):
 LS.run ⟨W,false,st,0,acc,p⟩ (L++asc [g])=⟨⟨1,p,⟨(bEJ L).toArray⟩,0⟩::W,false,p+(bEJ L).length,0,[g],p+(bEJ L).length+1⟩:=by
 obtain⟨x,l,rfl,hl⟩:=h.head;have h0:∀ y∈l,ldB y=true:=fun y hy=>(h.ok y (Ql _ hy)).2
 have h1:LS.step ⟨W,false,st,0,acc,p⟩ x=⟨W,false,p,2,x.bs,p+x.bs.length⟩:=by
  unfold LS.step;rw[if_neg (show ¬LS.goes _ _=true by show ¬false=true;simp)];show({LS.begins ⟨W,false,st,0,acc,p⟩ (x.r:Int)with acc:=x.bs,p:=p+x.bs.length}:LS)=_;unfold LS.begins;have h2:=hl;simp only[oK,decide_eq_true_eq]at h2;rw[if_neg (show ¬aA0 (x.r:Int)=true by unfold aA0;simp;omega),Oh,if_pos hl]
 show LS.run (LS.step ⟨W,false,st,0,acc,p⟩ x) (l++asc [g])=_;have hb:x.bs++bEJ l=bEJ (x::l):=rfl;rw[h1,LS.run_append,bJL W p l _ _ h0,hb];show LS.step ⟨W,false,p,2,bEJ (x::l),p+x.bs.length+(bEJ l).length⟩ ⟨g.toNat,[g]⟩=_;have hn:p+x.bs.length+(bEJ l).length=p+(bEJ (x::l)).length:=by rw[<-hb,List.length_append];omega
 rw[hn];generalize bEJ (x::l)=B at*;have h3:(oK (g.toNat:Int)||kZ (g.toNat:Int))=false:=by rcases hg with rfl|rfl<;>decide
 unfold LS.step;rw[if_neg (show ¬LS.goes _ _=true by show ¬(oK (g.toNat:Int)||kZ (g.toNat:Int))=true;rw[h3];simp)]
 have hf:LS.finish ⟨W,false,p,2,B,p+B.length⟩=⟨⟨1,p,⟨B.toArray⟩,0⟩::W,false,p,2,B,p+B.length⟩:=by
  show(if 12 < Lib.runeCount ⟨B.toArray⟩then _ else if spB B=true then _ else LS.push _ 1 0 ⟨B.toArray⟩)=_;rw[Oh,if_neg (by rw[hs];simp)];rfl
 rw[hf];rcases hg with rfl|rfl<;>simp[LS.begins,aA0]
def spC(t:Tok):List UInt8:=if t.kind=1 then t.text.data.toList else if t.kind=2 then Lib.itoa t.value else spL t.kind.toNat
def bET(k n:Int):UInt8:=if(k=19\/k=14\/k=15)/\n≠8 then 10 else 32
theorem bHW(k n:Int):bET k n=32\/bET k n=10:=by unfold bET;split<;>simp
def bEM:List Tok->List UInt8
 |t::u::l=>spC t++bET t.kind u.kind::bEM (u::l)
 |_=>[]
def LTS:List Tok->List Tok->Prop
 |[],[]=>True
 |a::l,b::m=>TS a b/\LTS l m
 |_,_=>False
theorem bIF{t:Tok}(ht:bEY t)(g:UInt8)(hg:g=32\/g=10):∃ Cs,(∀ x∈Cs,bHE x)/\bEJ Cs=spC t++[g]/\∀ (W:List Tok) (st p:Nat) (acc:List UInt8),∃ t' st' acc' p',TS t t'/\LS.run ⟨W,false,st,0,acc,p⟩ Cs=⟨t'::W,false,st',0,acc',p'⟩:=by
 have h4:g.toNat < 128:=by rcases hg with rfl|rfl<;>decide
 rcases ht with⟨hk,hv,L,hL,h0,hr,hs⟩|⟨hk,h0,u,hu,hv⟩|⟨k,h3,h6,hk,h0,hv⟩
 ·refine⟨L++asc [g],fun x hx=>?_,?_,fun W st p acc=>⟨_,_,_,_,?_,bIA W st p acc hL (by rw[<-h0];exact hr) hs g hg⟩⟩
  ·rcases List.mem_append.1 hx with hx|hx
   ·exact(hL.ok x hx).1
   ·exact bGT (by simpa using h4) x hx
  ·unfold spC;rw[if_pos hk,h0];unfold bEJ;rw[List.flatMap_append];rfl
  ·exact⟨hk,h0,hv⟩
 ·have hd:=bGR u
  have hi:spC t=Lib.decDigits u:=by
   unfold spC;rw[Oh,if_pos hk,hv];unfold Lib.itoa;rw[Oh,Int.toNat_natCast]
  refine⟨asc (Lib.decDigits u++[g]),fun x hx=>bGT (fun b hb=>?_) x hx,by rw[bGG,hi],fun W st p acc=>⟨_,_,_,_,?_,bIP W st p acc hu g hg⟩⟩
  ·rcases List.mem_append.1 hb with hb|hb
   ·have:=hd b hb;omega
   ·rw[List.mem_singleton]at hb;rw[hb];exact h4
  ·exact⟨hk,h0,hv⟩
 ·have hi:spC t=spL k:=by
   unfold spC;rw[Oh,Oh,hk,Int.toNat_natCast]
  have h2:∀ b∈spL k,b.toNat < 128:=by
   have h5:(List.range 34).all (fun k=>(spL k).all fun b=>decide (b.toNat < 128))=true:=by decide+kernel
   intro b hb;have h1:=List.all_eq_true.1 h5 k (List.mem_range.2 Oa);exact of_decide_eq_true (List.all_eq_true.1 h1 b hb)
  refine⟨asc (spL k++[g]),fun x hx=>bGT (fun b hb=>?_) x hx,by rw[bGG,hi],fun W st p acc=>⟨_,_,_,_,?_,bHM ⟨h3,h6⟩ g hg W st p acc⟩⟩
  ·rcases List.mem_append.1 hb with hb|hb
   ·exact h2 b hb
   ·rw[List.mem_singleton]at hb;rw[hb];exact h4
  ·exact⟨hk,h0,hv⟩
theorem bH2:∀ (l:List Tok) (e:Tok),(∀ t∈l,bEY t)->∃ Cs,(∀ x∈Cs,bHE x)/\bEJ Cs=bEM (l++[e])/\∀ (W:List Tok) (st p:Nat) (acc:List UInt8),∃ l' st' acc' p',LTS l l'/\LS.run ⟨W,false,st,0,acc,p⟩ Cs=⟨l'.reverse++W,false,st',0,acc',p'⟩
 |[],e,_=>⟨[],(fun _ h=>by cases h),rfl,fun W st p acc=>⟨[],st,acc,p,trivial,rfl⟩⟩
 |t::l,e,h=>by
  obtain⟨D,d1,d2,d3⟩:=bH2 l e (fun x hx=>h x (Ql _ hx));obtain⟨u,m,h0⟩:∃ u m,l++[e]=u::m:=by cases l<;>exact⟨_,_,rfl⟩
  obtain⟨Cs,c1,c2,c3⟩:=bIF (h t Qj) (bET t.kind u.kind) (bHW _ _);refine⟨Cs++D,fun x hx=>?_,?_,fun W st p acc=>?_⟩
  ·rcases List.mem_append.1 hx with hx|hx
   ·exact c1 x hx
   ·exact d1 x hx
  ·show bEJ (Cs++D)=bEM (t::(l++[e]));have e1:bEJ (Cs++D)=bEJ Cs++bEJ D:=by unfold bEJ;rw[List.flatMap_append]
   rw[e1,c2,d2,h0];show _=spC t++bET t.kind u.kind::bEM (u::m);simp
  ·obtain⟨t',st1,acc1,p1,ht,hr⟩:=c3 W st p acc;obtain⟨l',st2,acc2,p2,hl,h1⟩:=d3 (t'::W) st1 p1 acc1;refine⟨t'::l',st2,acc2,p2,⟨ht,hl⟩,?_⟩;rw[LS.run_append,hr,h1];simp
theorem LTS.len:∀ {l m:List Tok},LTS l m->l.length=m.length
 |[],[],_=>rfl
 |_::_,_::_,h=>by simp[LTS.len h.2]
theorem LTS.at_:∀ {l m:List Tok} (_:LTS l m) (i:Nat),TS (dD l i) (dD m i)
 |[],[],_,_=>TS.refl _
 |_::_,_::_,h,0=>h.1
 |_::_,_::_,h,i+1=>LTS.at_ h.2 i
theorem LTS.snoc:∀ {l m:List Tok} {a b:Tok},LTS l m->TS a b->LTS (l++[a]) (m++[b])
 |[],[],_,_,_,h=>⟨h,trivial⟩
 |_::_,_::_,_,_,h,h2=>⟨h.1,LTS.snoc h.2 h2⟩
theorem bK2{t t':Tok}(h:TS t t'):spC t=spC t':=by unfold spC;rw[h.kind,h.text,h.value]
theorem bHV:∀ {l m:List Tok},LTS l m->bEM l=bEM m
 |[],[],_=>rfl
 |[_],[_],_=>rfl
 |a::a2::l,b::b2::m,h=>by
  show spC a++bET a.kind a2.kind::bEM (a2::l)=spC b++bET b.kind b2.kind::bEM (b2::m);rw[bK2 h.1,h.1.kind,h.2.1.kind,bHV h.2]
def prT(s:ByteArray):ByteArray:=⟨(bEM (aW s)).toArray⟩
theorem bGF{s:ByteArray}(hc:(dN s).code=0):(dN (prT s)).code=0/\LTS (aW s) (aW (prT s))/\prT (prT s)=prT s:=by
 obtain⟨Cs,c1,c2,c3⟩:=bH2 (dN s).words ⟨0,s.size,ByteArray.mk #[],0⟩ (bFC s hc);obtain⟨l',st',acc',p',hl,hr⟩:=c3 [] 0 0 [];have hb:(prT s).data.toList=bEJ Cs:=by rw[c2];rfl
 have hd:=bHY (s:=prT s) Cs 0 c1 (Qe _) (by rw[hb];rfl)
 have h0:Cs.length<=(prT s).size:=by
  have:=bH7 (s:=prT s) Cs 0 hd (fun x hx=>List.length_pos_iff.2 (c1 x hx).1);omega
 have hf:(ls0.run Cs).finish=⟨l'.reverse,false,st',0,acc',p'⟩:=by
  show(LS.run ⟨[],false,0,0,[],0⟩ Cs).finish=_;rw[hr,List.append_nil];rfl
 obtain⟨w1,w2⟩:=aVN hd h0 (by rw[hf]);rw[hf]at w1;have w1:(dN (prT s)).words=l':=by rw[w1];exact List.reverse_reverse _
 have hT:LTS (aW s) (aW (prT s)):=by
  unfold aW;rw[w1];exact hl.snoc ⟨rfl,rfl,rfl⟩
 refine⟨w2,hT,?_⟩;show(⟨(bEM (aW (prT s))).toArray⟩:ByteArray)=⟨(bEM (aW s)).toArray⟩;rw[bHV hT]
open Go.Deep
theorem bJF(k n:Int)(w:World):Calls Tryz.prog 87 #[.int .i64 k,.int .i64 n] w fun e w'=>e= .returned (.int .u8 ((bET k n).toNat:Int))/\w=w':=by
 have fin:∀ b,bET k n=b->Ending.returned (Value.int .u8 (b.toNat:Int))=Ending.returned (Value.int .u8 ((bET k n).toNat:Int)):=fun b h=>by rw[h]
 by_cases h8:n=8
 ·have t8:(n !=8)=false:=by simp[h8]
  have hg:bET k n=32:=if_neg (fun h=>h.2 h8);have F:=fin 32 hg;have HF:Hid _:=F;clear F fin hg h8
  by_cases h1:k=19
  ·have e1:(k==19)=true:=by simp[h1]
   clear h1;go_enter Tryz.func87,Tryz.ntmps87
   go_wp2;go_ret;exact⟨HF.out,rfl⟩
  by_cases h2:k=14
  ·have e1:(k==19)=false:=by simp[h1]
   have e2:(k==14)=true:=by simp[h2]
   clear h1 h2;go_enter Tryz.func87,Tryz.ntmps87
   go_wp2;go_ret;exact⟨HF.out,rfl⟩
  by_cases h3:k=15
  ·have e1:(k==19)=false:=by simp[h1]
   have e2:(k==14)=false:=by simp[h2]
   have e3:(k==15)=true:=by simp[h3]
   clear h1 h2 h3;go_enter Tryz.func87,Tryz.ntmps87
   go_wp2;go_ret;exact⟨HF.out,rfl⟩
  ·have e1:(k==19)=false:=by simp[h1]
   have e2:(k==14)=false:=by simp[h2]
   have e3:(k==15)=false:=by simp[h3]
   clear h1 h2 h3;go_enter Tryz.func87,Tryz.ntmps87
   go_wp2;go_ret;exact⟨HF.out,rfl⟩
 ·have t8:(n !=8)=true:=by simp[h8]
  by_cases h1:k=19
  ·have HF:Hid _:=fin 10 (if_pos ⟨.inl h1,h8⟩);have e1:(k==19)=true:=by simp[h1]
   clear h1 fin h8;go_enter Tryz.func87,Tryz.ntmps87
   go_wp2;go_ret;exact⟨HF.out,rfl⟩
  by_cases h2:k=14
  ·have HF:Hid _:=fin 10 (if_pos ⟨.inr (.inl h2),h8⟩);have e1:(k==19)=false:=by simp[h1]
   have e2:(k==14)=true:=by simp[h2]
   clear h1 h2 fin h8;go_enter Tryz.func87,Tryz.ntmps87
   go_wp2;go_ret;exact⟨HF.out,rfl⟩
  by_cases h3:k=15
  ·have HF:Hid _:=fin 10 (if_pos ⟨.inr (.inr h3),h8⟩);have e1:(k==19)=false:=by simp[h1]
   have e2:(k==14)=false:=by simp[h2]
   have e3:(k==15)=true:=by simp[h3]
   clear h1 h2 h3 fin h8;go_enter Tryz.func87,Tryz.ntmps87
   go_wp2;go_ret;exact⟨HF.out,rfl⟩
  ·have HF:Hid _:=fin 32 (if_neg (fun h=>by rcases h.1 with h|h|h<;>contradiction));have e1:(k==19)=false:=by simp[h1]
   have e2:(k==14)=false:=by simp[h2]
   have e3:(k==15)=false:=by simp[h3]
   clear h1 h2 h3 fin h8;go_enter Tryz.func87,Tryz.ntmps87
   go_wp2;go_ret;exact⟨HF.out,rfl⟩
end Go.Proofs.YtikffmloeifkpaaGreatDoor
