/- Contracts. -/
import Derived.Test.YtikffmloeifkpaaGreatDoorR01
import Derived.Deep.RegionHeld3
import Derived.Deep.RegionLaw
import Derived.Deep.AppendLies
import Derived.Lib.OthersKept
set_option maxHeartbeats 1000000
set_option maxRecDepth 100000
namespace Go.Proofs.YtikffmloeifkpaaGreatDoor
open Go.RowKit Go.Lib Tryz
structure aU where
 d:Int
 e:Int
 f:ByteArray
 a:Int
def aU.cells(t:aU):List Value:=[Qc t.d,Qc t.e,.string t.f,Qc t.a]
def dD(l:List aU):List Value:=l.flatMap aU.cells
theorem uZ(l:List aU)(t:aU):dD (l++[t])=dD l++t.cells:=by simp[dD]
structure dI where
 f:ByteArray
 words:List aU
 a:Int
 e:Int
 mode:Int
 start:Int
structure gN(B b:Nat)(c:dI)(v:Value)(w:World):Prop where
 f:w.cell? ⟨b,0,none⟩=some (.string c.f)
 wordsAt:w.cell? ⟨b,1,none⟩=some v
 a:w.cell? ⟨b,2,none⟩=some (Qc c.a)
 e:w.cell? ⟨b,3,none⟩=some (Qc c.e)
 mode:w.cell? ⟨b,4,none⟩=some (Qc c.mode)
 start:w.cell? ⟨b,5,none⟩=some (Qc c.start)
 thawed:∀ o,w.frozen? ⟨b,o,none⟩=false
 own:w.ownsRow B 143 4 v c.words.length (dD c.words)
 lt:b < B
structure Kp(b:Nat)(w w':World):Prop where
 below:Below b w w'
 others:OthersKept 143 (some b) w w'
theorem Kp.refl(b:Nat)(w:World):Kp b w w:=⟨Below.refl _ _,OthersKept.refl _ _ _⟩
theorem Kp.t{b:Nat}{u v w:World}(h:Kp b u v)(k:Kp b v w):Kp b u w:=⟨h.below.t k.below,h.others.trans k.others⟩
theorem Kp.set{b:Nat}{u w:World}(h:Kp b u w)(o:Nat)(v:Value):Kp b u (w.setCell ⟨b,o,none⟩ v):=⟨h.below.setCell (Ql b) v,h.others.setCell _ rfl v⟩
theorem mL{w:World}{b o:Nat}{x y:Value}(h:w.cell? ⟨b,o,none⟩=some y)(a:Nat):(w.setCell ⟨b,o,none⟩ x).cell? ⟨b,a,none⟩=if a=o then some x else w.cell? ⟨b,a,none⟩:=by
 by_cases e:a=o
 ·grind[World.cell?_setCell_same]
 ·rw[if_neg e];exact World.cell?_setCell_other _ _ _ _ Od
theorem gN.setCode{B b:Nat}{c:dI}{v:Value}{w:World}(h:gN B b c v w)(m:Int):gN B b {c with a:=m} v (w.setCell ⟨b,2,none⟩ (Qc m)):=
 {f:=by rw[mL h.a];exact h.f,wordsAt:=by rw[mL h.a];exact h.wordsAt,a:=by rw[mL h.a];rfl,e:=by rw[mL h.a];exact h.e,mode:=by rw[mL h.a];exact h.mode,start:=by rw[mL h.a];exact h.start,thawed:=fun o=>by rw[World.frozen?_setCell];exact h.thawed o,own:=ownsRow_setCell_below h.own h.lt _,lt:=h.lt}
theorem gN.setPos{B b:Nat}{c:dI}{v:Value}{w:World}(h:gN B b c v w)(m:Int):gN B b {c with e:=m} v (w.setCell ⟨b,3,none⟩ (Qc m)):=
 {f:=by rw[mL h.e];exact h.f,wordsAt:=by rw[mL h.e];exact h.wordsAt,a:=by rw[mL h.e];exact h.a,e:=by rw[mL h.e];rfl,mode:=by rw[mL h.e];exact h.mode,start:=by rw[mL h.e];exact h.start,thawed:=fun o=>by rw[World.frozen?_setCell];exact h.thawed o,own:=ownsRow_setCell_below h.own h.lt _,lt:=h.lt}
theorem gN.setMode{B b:Nat}{c:dI}{v:Value}{w:World}(h:gN B b c v w)(m:Int):gN B b {c with mode:=m} v (w.setCell ⟨b,4,none⟩ (Qc m)):=
 {f:=by rw[mL h.mode];exact h.f,wordsAt:=by rw[mL h.mode];exact h.wordsAt,a:=by rw[mL h.mode];exact h.a,e:=by rw[mL h.mode];exact h.e,mode:=by rw[mL h.mode];rfl,start:=by rw[mL h.mode];exact h.start,thawed:=fun o=>by rw[World.frozen?_setCell];exact h.thawed o,own:=ownsRow_setCell_below h.own h.lt _,lt:=h.lt}
theorem gN.setStart{B b:Nat}{c:dI}{v:Value}{w:World}(h:gN B b c v w)(m:Int):gN B b {c with start:=m} v (w.setCell ⟨b,5,none⟩ (Qc m)):=
 {f:=by rw[mL h.start];exact h.f,wordsAt:=by rw[mL h.start];exact h.wordsAt,a:=by rw[mL h.start];exact h.a,e:=by rw[mL h.start];exact h.e,mode:=by rw[mL h.start];exact h.mode,start:=by rw[mL h.start];rfl,thawed:=fun o=>by rw[World.frozen?_setCell];exact h.thawed o,own:=ownsRow_setCell_below h.own h.lt _,lt:=h.lt}
theorem gN.setWords{B b:Nat}{c:dI}{v v':Value}{w w':World}{l:List aU}(h:gN B b c v w)(i:w'.1[b]?=w.1[b]?)(k:w'.ownsRow B 143 4 v' l.length (dD l)):
 gN B b {c with words:=l} v' (w'.setCell ⟨b,1,none⟩ v'):=by
 have g:∀ o,w'.cell? ⟨b,o,none⟩=w.cell? ⟨b,o,none⟩:=fun o=>Qo i;have j:∀ o,w'.frozen? ⟨b,o,none⟩=w.frozen? ⟨b,o,none⟩:=fun o=>World.frozen?_of_block i;have d:=(g 1).t h.wordsAt;exact {f:=by rw[mL d];exact(g 0).t h.f,wordsAt:=by rw[mL d];rfl,a:=by rw[mL d];exact(g 2).t h.a,e:=by rw[mL d];exact(g 3).t h.e,mode:=by rw[mL d];exact(g 4).t h.mode,start:=by rw[mL d];exact(g 5).t h.start,thawed:=fun o=>by rw[World.frozen?_setCell];exact(j o).t (h.thawed o),own:=ownsRow_setCell_below k h.lt _,lt:=h.lt}
theorem gN.kept{B b:Nat}{c:dI}{v:Value}{w w':World}(h:gN B b c v w)(d:w'.1[b]?=w.1[b]?)(g:w'.ownsRow B 143 4 v c.words.length (dD c.words)):gN B b c v w':=
 {f:=(Qo (a:=⟨b,0,none⟩) d).t h.f,wordsAt:=(Qo (a:=⟨b,1,none⟩) d).t h.wordsAt,a:=(Qo (a:=⟨b,2,none⟩) d).t h.a,e:=(Qo (a:=⟨b,3,none⟩) d).t h.e,mode:=(Qo (a:=⟨b,4,none⟩) d).t h.mode,start:=(Qo (a:=⟨b,5,none⟩) d).t h.start,thawed:=fun o=>(World.frozen?_of_block (a:=⟨b,o,none⟩) d).t (h.thawed o),own:=g,lt:=h.lt}
theorem lT{w:World}{o:Obj}{b k:Nat}{x:Value}(a:b < w.1.size)(h:w.cell? ⟨b,k,none⟩=some x):(w.alloc o).drew.cell? ⟨b,k,none⟩=some x:=by
 show(w.alloc o).cell? _=_;grind[World.cell?_alloc_past]
theorem rO{w:World}{o:Obj}{b k:Nat}(a:b < w.1.size)(h:w.frozen? ⟨b,k,none⟩=false):(w.alloc o).drew.frozen? ⟨b,k,none⟩=false:=by
 show(w.alloc o).frozen? _=_;grind[World.frozen?_alloc_past]
theorem gK{w:World}{o:Obj}{b:Nat}(a:b < w.1.size):b < (w.alloc o).drew.1.size:=by
 show b < (w.alloc o).1.size;simp;omega
theorem gN.pushed{B b:Nat}{c:dI}{v v':Value}{w w1:World}{U:aU}{C:Array Value}(h:gN B b c v w)(m:b < w.1.size)(q:w1.ownsRow B 143 4 v' (c.words.length+1) (dD c.words++U.cells))(a:(w.alloc (.cells C 143)).drew.grownBy w1 v.ownBlock):
 (∃ p,gN B b {c with words:=c.words++[U]} p (w1.setCell ⟨b,1,none⟩ v'))/\Kp b w (w1.setCell ⟨b,1,none⟩ v'):=by
 have d:some b≠v.ownBlock:=fun e=>by have:=(h.own.lt b e.symm).1;have:=h.lt;omega
 have r:w.1.size+1=(w.alloc (.cells C 143)).drew.1.size:=Od
 have l:w1.1[b]?=w.1[b]?:=(a.block b Oa d).t (Below.heap_alloc w _ b m);refine⟨⟨v',h.setWords l (by grind[uZ,List.length_append])⟩,Kp.set ⟨?_,?_⟩ 1 v'⟩
 ·refine Below.grown ((Below.refl b w).alloc Oa _).drew a Oa (fun o n=>?_);have:=(h.own.lt o n).1;have:=h.lt;omega
 ·refine OthersKept.grown ((OthersKept.refl 143 (some b) w).alloc _).drew a (fun g h0=>?_);have j:=(h.own.lt g h0).2;rcases h.own.2 with⟨rfl,_⟩|⟨i,J,f,rfl,_,k,_⟩
  ·trivial
  ·simp[Value.ownBlock]at h0;subst h0;exact⟨f,(0,0),(Below.heap_alloc w _ i j).t k⟩
def dI.fail(c:dI)(e p:Int):dI:=if c.a=0 then {c with a:=e,e:=p}else c
theorem aAB(B b:Nat)(c:dI)(v:Value)(e p:Int)(w:World)(h:gN B b c v w):
 Calls prog 122 #[Qd b,Qc e,Qc p] w fun x g=>x= .returned (.tuple #[])/\
  gN B b (c.fail e p) v g/\Kp b w g:=by
 have i:=h.a;have k:=h.e;have j:=h.thawed 2;have f3:=h.thawed 3
 by_cases d:c.a=0
 ·rw[d]at i;have f:c.fail e p={c with a:=e,e:=p}:=if_pos d;rw[f];clear f d;go_enter func122,ntmps122
  go_wp2;go_end0
  exact⟨rfl,(h.setCode e).setPos p,((Kp.refl b w).set 2 _).set 3 _⟩
 ·have f:c.fail e p=c:=if_neg d;rw[f];have l:(c.a==0)=false:=by simpa using d
  clear f d;go_enter func122,ntmps122
  go_wp2;go_end0
  exact⟨rfl,h,Kp.refl b w⟩
theorem info143:(prog.info? 143).map (fun i=>(i.zero,i.size,i.bytes))=some (some (.agg #[Qc 0,Qc 0,.string (ByteArray.mk #[]),Qc 0]),4,40):=by kernel_rfl
def dI.push(c:dI)(k v:Int)(t:ByteArray):dI:={c with words:=c.words++[⟨k,c.start,t,v⟩]}
def dI.sign(c:dI)(t:ByteArray):dI:=if xW t.data.toList then c.push (zU t.data.toList) 0 (ByteArray.mk #[])else c.fail 1 c.start
theorem aDO(B b:Nat)(c:dI)(v:Value)(t:ByteArray)(w:World)(h:gN B b c v w)(k:Tab w)(z:B<=w.1.size)(D:c.words.length<=5000):
 Calls prog 120 #[Qd b,.string t] w fun x f=>x= .returned (.tuple #[])/\
  (∃ s,gN B b (c.sign t) s f)/\Kp b w f:=by
 obtain⟨i0,p,o,n,m⟩:=info_parts info143;have i:=h.wordsAt;have y:=h.start;have f1:=h.thawed 1;have j:=h.own;have d:b < w.1.size:=Qp w _ i;have g:some b≠v.ownBlock:=fun e=>by have:=(j.lt b e.symm).1;have:=h.lt;omega
 cases hs:xW t.data.toList
 ·have a:c.sign t=c.fail 1 c.start:=by unfold dI.sign;rw[hs];rfl
  rw[a];clear a;go_enter func120,ntmps120
  go_wp2_with (first|(go_at_call 181;refine(sN _ _ k).mono ?_;rintro e f ⟨rfl,rfl⟩;rw[hs])|(go_at_call 122;refine(aAB B b c v _ _ _ h).mono ?_;rintro e f ⟨rfl,q,r⟩))
  refine bodyPost_ret (results_none rfl _ _ _) rfl ?_;exact⟨rfl,⟨v,q⟩,r⟩
 ·have a:c.sign t=c.push (zU t.data.toList) 0 (ByteArray.mk #[]):=by unfold dI.sign;rw[hs];rfl
  rw[a];clear a;go_enter func120,ntmps120
  go_wp2_with (first|(go_at_call 181;refine(sN _ _ k).mono ?_;rintro e f ⟨rfl,rfl⟩;rw[hs]))
  go_region_law
   ((refine step_append_lies _ (by rfl) _ _ _ (by rfl) B 143 i0 _ 4 40 underlying85 p o n m rfl Oa v c.words.length (dD c.words) (by rfl) ((j.alloc _).drew)
      ⟨w.1.size,0,none⟩ 1 1 (aU.cells ⟨zU t.data.toList,c.start,ByteArray.mk #[],0⟩) (by rfl) (by rfl) (World.news_of_block (cs:=#[Qc (zU t.data.toList),Qc c.start,.string (ByteArray.mk #[]),Qc 0]) (t:=143) (fr:=(0,0)) (Qk w _)) (by simp[aU.cells,Value.oneCell'])
      Oa (by unfold maxLen;omega) Oa (by simp;omega) (w.1.size+1) Od ?_;intro u J G l h0 A C;have E:=(h0.cell_far ⟨b,1,none⟩ (gK d) g).t (lT d i);have F:=(h0.frozen_far ⟨b,1,none⟩ (gK d) g).t (rO d f1)))
  all_goals go_wp2
  all_goals refine bodyPost_end (results_none rfl _ _ _) rfl ?_
  all_goals exact⟨rfl,gN.pushed h d l h0⟩
def kX(l:List UInt8):Int:=l.foldl (fun a d=>min (a*10+((d.toNat:Int) - 48)) 1000000000) 0
def dI.number(c:dI)(t:ByteArray):dI:=if 999999999 < kX t.data.toList then c.fail 3 c.start else c.push 2 (kX t.data.toList) (ByteArray.mk #[])
def aB7(l:List UInt8):Prop:=∀ d∈l,48<=d.toNat/\d.toNat<=57
theorem aD7(l:List UInt8)(d:UInt8):kX (l++[d])=min (kX l*10+((d.toNat:Int) - 48)) 1000000000:=by simp[kX]
theorem aSL(l:List UInt8):∀ a:Int,0<=a/\a<=1000000000->aB7 l->0<=l.foldl (fun a d=>min (a*10+((d.toNat:Int) - 48)) 1000000000) a/\l.foldl (fun a d=>min (a*10+((d.toNat:Int) - 48)) 1000000000) a<=1000000000:=by
 induction l with
 |nil=>grind
 |cons d l ih=>
  intro a h b;have:=b d Od;exact ih _ Qg (fun x c=>b x (by simp[c]))
theorem wT(l:List UInt8)(h:aB7 l):0<=kX l/\kX l<=1000000000:=aSL l 0 Oa h
theorem gN.iter{B b:Nat}{c:dI}{v:Value}{w:World}(h:gN B b c v w)(a:b < w.1.size)(s:ByteArray)(p:Nat):gN B b c v (w.iter s p):=
 h.kept (Below.heap_alloc w _ b a) (h.own.alloc _)
theorem Kp.iter{b:Nat}{w:World}(a:b < w.1.size)(s:ByteArray)(p:Nat):Kp b w (w.iter s p):=⟨(Below.refl b w).alloc Oa _,(OthersKept.refl 143 (some b) w).alloc _⟩
theorem aH6{s:ByteArray}{k:Nat}(h:k < s.size)(a:aB7 s.data.toList):Utf8.decode s k=(s[k].toNat,1)/\48<=s[k].toNat/\s[k].toNat<=57:=by
 have b:=a s[k] (by rw[ByteArray.getElem_eq_getElem_data];simp)
 grind[decode_ascii]
theorem aNX(s:ByteArray)(k:Nat)(h:k < s.size):s.data.toList.take (k+1)=s.data.toList.take k++[s[k]]:=by
 rw[List.take_succ_eq_append_getElem (by simpa using h)];rfl
theorem aB2(B b:Nat)(c:dI)(v:Value)(t:ByteArray)(w:World)(h:gN B b c v w)(A:B<=w.1.size)(T:c.words.length<=5000)(g:aB7 t.data.toList)(U:t.size<=5000):
 Calls prog 119 #[Qd b,.string t] w fun x j=>x= .returned (.tuple #[])/\
  (∃ K,gN B b (c.number t) K j)/\Kp b w j:=by
 have s:b < w.1.size:=Qp w _ h.wordsAt;go_enter func119,ntmps119
 go_wp2;go_loopw [4] (fun J wr=>∃ k:Nat,k<=t.size/\wr=w.iter t k/\J= Qc (kX (t.data.toList.take k))) (fun _ wr=>t.size - wr.iterPos w.1.size)
 case atStart=>exact⟨0,Oa,rfl,rfl⟩
 case round=>
  obtain⟨k,q,rfl,rfl⟩:=hrel
  by_cases f:k < t.size
  ·have o:∀ Z,(Instr.next (Qd w.1.size) true Z).run prog (w.iter t k)=_:=fun Z=>run_next_any w t k Z f;obtain⟨z,S,R⟩:=aH6 f g;rw[z]at o;have C:=wT (t.data.toList.take k) (fun x D=>g x (List.mem_of_mem_take D));go_wp2;go_roundw
   case rel=>
    refine⟨k+1,f,rfl,?_⟩;rw[aNX t k f,aD7,Int.min_def]
    split<;>split<;>first|rfl|(exfalso;omega)|(congr 1;omega)
   case measure=>simp;omega
  ·have G:k=t.size:=Oa
   subst G;have o:∀ Z,(Instr.next (Qd w.1.size) true Z).run prog (w.iter t t.size)=_:=fun Z=>run_next_end w t t.size Z Oa;have y:t.data.toList.take t.size=t.data.toList:=List.take_of_length_le Od;rw[y];obtain⟨i0,H,F,E,k0⟩:=info_parts info143;have a:=h.iter s t t.size;have r:=Kp.iter s t t.size;have d:b < (w.iter t t.size).1.size:=Qp _ _ a.wordsAt;have P:B<=(w.iter t t.size).1.size:=Qm A (by show _<=(w.alloc _).1.size;simp);generalize w.iter t t.size=W at*;have u:=a.wordsAt;have O:=a.start;have f1:=a.thawed 1;have n:=a.own;have l:some b≠v.ownBlock:=fun e=>by have:=(n.lt b e.symm).1;have:=h.lt;omega
   have C:=wT t.data.toList g
   by_cases p:999999999 < kX t.data.toList
   ·have i:Hid (c.number t=c.fail 3 c.start):=if_pos p;go_wp2_with (go_at_call 122;refine(aAB B b c v _ _ _ a).mono ?_;rintro e j ⟨rfl,I,q⟩)
    refine bodyPost_ret (results_none rfl _ _ _) rfl ?_;exact⟨rfl,⟨v,by rw[i.o];exact I⟩,r.t q⟩
   ·have i:Hid (c.number t=c.push 2 (kX t.data.toList) (ByteArray.mk #[])):=if_neg p;generalize kX t.data.toList=N at*;go_wp2_with fail
    go_region_law
     ((refine step_append_lies _ (by rfl) _ _ _ (by rfl) B 143 i0 _ 4 40 underlying85 H F E k0 rfl Oa v c.words.length (dD c.words) (by rfl) ((n.alloc _).drew)
        ⟨W.1.size,0,none⟩ 1 1 (aU.cells ⟨2,c.start,ByteArray.mk #[],N⟩) (by rfl) (by rfl) (World.news_of_block (cs:=#[Qc 2,Qc c.start,.string (ByteArray.mk #[]),Qc N]) (t:=143) (fr:=(0,0)) (Qk W _)) (by simp[aU.cells,Value.oneCell'])
        Oa (by unfold maxLen;omega) Oa (by simp;omega) (W.1.size+1) Od ?_;intro M L Y m h0 Q f;have V:=(h0.cell_far ⟨b,1,none⟩ (gK d) l).t (lT d u);have X:=(h0.frozen_far ⟨b,1,none⟩ (gK d) l).t (rO d f1)))
    all_goals go_wp2
    all_goals refine bodyPost_end (results_none rfl _ _ _) rfl ?_
    all_goals exact⟨rfl,by rw[i.o];exact(gN.pushed a d m h0).1,r.t (gN.pushed a d m h0).2⟩
end Go.Proofs.YtikffmloeifkpaaGreatDoor
