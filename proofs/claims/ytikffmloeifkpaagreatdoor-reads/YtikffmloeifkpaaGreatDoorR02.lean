/- Contracts. -/
import Derived.Test.YtikffmloeifkpaaGreatDoorR01
import Derived.Deep.RegionHeld3
import Derived.Deep.RegionLaw
import Derived.Deep.AppendLies
import Derived.Lib.OthersKept
set_option maxHeartbeats 1000000
set_option maxRecDepth 100000
namespace Go.Proofs.YtikffmloeifkpaaGreatDoor
open Go.RowKit Go.Lib Tryz
structure Tok where
 d:Int
 e:Int
 f:ByteArray
 a:Int
def Tok.cells(t:Tok):List Value:=[Qc t.d,Qc t.e,.string t.f,Qc t.a]
def fJ(l:List Tok):List Value:=l.flatMap Tok.cells
theorem bD2(l:List Tok)(t:Tok):fJ (l++[t])=fJ l++t.cells:=by simp[fJ]
structure Cut where
 f:ByteArray
 words:List Tok
 a:Int
 e:Int
 mode:Int
 start:Int
structure eV(B b:Nat)(c:Cut)(v:Value)(w:World):Prop where
 f:w.cell? ⟨b,0,none⟩=some (.string c.f)
 wordsAt:w.cell? ⟨b,1,none⟩=some v
 a:w.cell? ⟨b,2,none⟩=some (Qc c.a)
 e:w.cell? ⟨b,3,none⟩=some (Qc c.e)
 mode:w.cell? ⟨b,4,none⟩=some (Qc c.mode)
 start:w.cell? ⟨b,5,none⟩=some (Qc c.start)
 thawed:∀ o,w.frozen? ⟨b,o,none⟩=false
 own:w.ownsRow B 143 4 v c.words.length (fJ c.words)
 lt:b < B
structure Kp(b:Nat)(w w':World):Prop where
 below:Below b w w'
 others:OthersKept 143 (some b) w w'
theorem Kp.refl(b:Nat)(w:World):Kp b w w:=⟨Below.refl _ _,OthersKept.refl _ _ _⟩
theorem Kp.t{b:Nat}{u v w:World}(h:Kp b u v)(k:Kp b v w):Kp b u w:=⟨h.below.t k.below,h.others.trans k.others⟩
theorem Kp.set{b:Nat}{u w:World}(h:Kp b u w)(o:Nat)(v:Value):Kp b u (w.setCell ⟨b,o,none⟩ v):=⟨h.below.setCell (Ql b) v,h.others.setCell _ rfl v⟩
theorem eP{w:World}{b o:Nat}{x y:Value}(h:w.cell? ⟨b,o,none⟩=some y)(a:Nat):(w.setCell ⟨b,o,none⟩ x).cell? ⟨b,a,none⟩=if a=o then some x else w.cell? ⟨b,a,none⟩:=by
 by_cases e:a=o
 ·grind[World.cell?_setCell_same]
 ·rw[if_neg e];exact World.cell?_setCell_other _ _ _ _ Od
theorem eV.setCode{B b:Nat}{c:Cut}{v:Value}{w:World}(h:eV B b c v w)(m:Int):eV B b {c with a:=m} v (w.setCell ⟨b,2,none⟩ (Qc m)):=
 {f:=by rw[eP h.a];exact h.f,wordsAt:=by rw[eP h.a];exact h.wordsAt,a:=by rw[eP h.a];rfl,e:=by rw[eP h.a];exact h.e,mode:=by rw[eP h.a];exact h.mode,start:=by rw[eP h.a];exact h.start,thawed:=fun o=>by rw[World.frozen?_setCell];exact h.thawed o,own:=ownsRow_setCell_below h.own h.lt _,lt:=h.lt}
theorem eV.setPos{B b:Nat}{c:Cut}{v:Value}{w:World}(h:eV B b c v w)(m:Int):eV B b {c with e:=m} v (w.setCell ⟨b,3,none⟩ (Qc m)):=
 {f:=by rw[eP h.e];exact h.f,wordsAt:=by rw[eP h.e];exact h.wordsAt,a:=by rw[eP h.e];exact h.a,e:=by rw[eP h.e];rfl,mode:=by rw[eP h.e];exact h.mode,start:=by rw[eP h.e];exact h.start,thawed:=fun o=>by rw[World.frozen?_setCell];exact h.thawed o,own:=ownsRow_setCell_below h.own h.lt _,lt:=h.lt}
theorem eV.setMode{B b:Nat}{c:Cut}{v:Value}{w:World}(h:eV B b c v w)(m:Int):eV B b {c with mode:=m} v (w.setCell ⟨b,4,none⟩ (Qc m)):=
 {f:=by rw[eP h.mode];exact h.f,wordsAt:=by rw[eP h.mode];exact h.wordsAt,a:=by rw[eP h.mode];exact h.a,e:=by rw[eP h.mode];exact h.e,mode:=by rw[eP h.mode];rfl,start:=by rw[eP h.mode];exact h.start,thawed:=fun o=>by rw[World.frozen?_setCell];exact h.thawed o,own:=ownsRow_setCell_below h.own h.lt _,lt:=h.lt}
theorem eV.setStart{B b:Nat}{c:Cut}{v:Value}{w:World}(h:eV B b c v w)(m:Int):eV B b {c with start:=m} v (w.setCell ⟨b,5,none⟩ (Qc m)):=
 {f:=by rw[eP h.start];exact h.f,wordsAt:=by rw[eP h.start];exact h.wordsAt,a:=by rw[eP h.start];exact h.a,e:=by rw[eP h.start];exact h.e,mode:=by rw[eP h.start];exact h.mode,start:=by rw[eP h.start];rfl,thawed:=fun o=>by rw[World.frozen?_setCell];exact h.thawed o,own:=ownsRow_setCell_below h.own h.lt _,lt:=h.lt}
theorem eV.setWords{B b:Nat}{c:Cut}{v v':Value}{w w':World}{l:List Tok}(h:eV B b c v w)(i:w'.1[b]?=w.1[b]?)(k:w'.ownsRow B 143 4 v' l.length (fJ l)):
 eV B b {c with words:=l} v' (w'.setCell ⟨b,1,none⟩ v'):=by
 have g:∀ o,w'.cell? ⟨b,o,none⟩=w.cell? ⟨b,o,none⟩:=fun o=>Qo i;have j:∀ o,w'.frozen? ⟨b,o,none⟩=w.frozen? ⟨b,o,none⟩:=fun o=>World.frozen?_of_block i;have d:=(g 1).t h.wordsAt;exact {f:=by rw[eP d];exact(g 0).t h.f,wordsAt:=by rw[eP d];rfl,a:=by rw[eP d];exact(g 2).t h.a,e:=by rw[eP d];exact(g 3).t h.e,mode:=by rw[eP d];exact(g 4).t h.mode,start:=by rw[eP d];exact(g 5).t h.start,thawed:=fun o=>by rw[World.frozen?_setCell];exact(j o).t (h.thawed o),own:=ownsRow_setCell_below k h.lt _,lt:=h.lt}
theorem eV.kept{B b:Nat}{c:Cut}{v:Value}{w w':World}(h:eV B b c v w)(d:w'.1[b]?=w.1[b]?)(g:w'.ownsRow B 143 4 v c.words.length (fJ c.words)):eV B b c v w':=
 {f:=(Qo (a:=⟨b,0,none⟩) d).t h.f,wordsAt:=(Qo (a:=⟨b,1,none⟩) d).t h.wordsAt,a:=(Qo (a:=⟨b,2,none⟩) d).t h.a,e:=(Qo (a:=⟨b,3,none⟩) d).t h.e,mode:=(Qo (a:=⟨b,4,none⟩) d).t h.mode,start:=(Qo (a:=⟨b,5,none⟩) d).t h.start,thawed:=fun o=>(World.frozen?_of_block (a:=⟨b,o,none⟩) d).t (h.thawed o),own:=g,lt:=h.lt}
theorem sS{w:World}{o:Obj}{b k:Nat}{x:Value}(a:b < w.1.size)(h:w.cell? ⟨b,k,none⟩=some x):(w.alloc o).drew.cell? ⟨b,k,none⟩=some x:=by
 show(w.alloc o).cell? _=_;grind[World.cell?_alloc_past]
theorem xB{w:World}{o:Obj}{b k:Nat}(a:b < w.1.size)(h:w.frozen? ⟨b,k,none⟩=false):(w.alloc o).drew.frozen? ⟨b,k,none⟩=false:=by
 show(w.alloc o).frozen? _=_;grind[World.frozen?_alloc_past]
theorem kO{w:World}{o:Obj}{b:Nat}(a:b < w.1.size):b < (w.alloc o).drew.1.size:=by
 show b < (w.alloc o).1.size;simp;omega
theorem eV.pushed{B b:Nat}{c:Cut}{v v':Value}{w w1:World}{O:Tok}{C:Array Value}(h:eV B b c v w)(n:b < w.1.size)(r:w1.ownsRow B 143 4 v' (c.words.length+1) (fJ c.words++O.cells))(d:(w.alloc (.cells C 143)).drew.grownBy w1 v.ownBlock):
 (∃ q,eV B b {c with words:=c.words++[O]} q (w1.setCell ⟨b,1,none⟩ v'))/\Kp b w (w1.setCell ⟨b,1,none⟩ v'):=by
 have f:some b≠v.ownBlock:=fun e=>by have:=(h.own.lt b e.symm).1;have:=h.lt;omega
 have s:w.1.size+1=(w.alloc (.cells C 143)).drew.1.size:=Od
 have m:w1.1[b]?=w.1[b]?:=(d.block b Oa f).t (Below.heap_alloc w _ b n);refine⟨⟨v',h.setWords m (by grind[bD2,List.length_append])⟩,Kp.set ⟨?_,?_⟩ 1 v'⟩
 ·refine Below.grown ((Below.refl b w).alloc Oa _).drew d Oa (fun p o=>?_);have:=(h.own.lt p o).1;have:=h.lt;omega
 ·refine OthersKept.grown ((OthersKept.refl 143 (some b) w).alloc _).drew d (fun g a=>?_);have k:=(h.own.lt g a).2;rcases h.own.2 with⟨rfl,_⟩|⟨j,J,i,rfl,_,l,_⟩
  ·trivial
  ·simp[Value.ownBlock]at a;subst a;exact⟨i,(0,0),(Below.heap_alloc w _ j k).t l⟩
def Cut.fail(c:Cut)(e p:Int):Cut:=if c.a=0 then {c with a:=e,e:=p}else c
theorem uZ(B b:Nat)(c:Cut)(v:Value)(e p:Int)(w:World)(h:eV B b c v w):
 Calls prog 122 #[Qd b,Qc e,Qc p] w fun x g=>x= .returned (.tuple #[])/\
  eV B b (c.fail e p) v g/\Kp b w g:=by
 have i:=h.a;have k:=h.e;have j:=h.thawed 2;have f3:=h.thawed 3
 by_cases d:c.a=0
 ·rw[d]at i;have f:c.fail e p={c with a:=e,e:=p}:=if_pos d;rw[f];clear f d;go_enter func122,ntmps122
  go_wp2;go_end0
  exact⟨rfl,(h.setCode e).setPos p,((Kp.refl b w).set 2 _).set 3 _⟩
 ·have f:c.fail e p=c:=if_neg d;rw[f];have l:(c.a==0)=false:=by simpa using d
  clear f d;go_enter func122,ntmps122
  go_wp2;go_end0
  exact⟨rfl,h,Kp.refl b w⟩
theorem info143:(prog.info? 143).map (fun i=>(i.zero,i.size,i.bytes))=some (some (.agg #[Qc 0,Qc 0,.string (ByteArray.mk #[]),Qc 0]),4,40):=by kernel_rfl
def Cut.push(c:Cut)(k v:Int)(t:ByteArray):Cut:={c with words:=c.words++[⟨k,c.start,t,v⟩]}
def Cut.sign(c:Cut)(t:ByteArray):Cut:=if spB t.data.toList then c.push (spK t.data.toList) 0 (ByteArray.mk #[])else c.fail 1 c.start
theorem zQ(B b:Nat)(c:Cut)(v:Value)(t:ByteArray)(w:World)(h:eV B b c v w)(l:Tab w)(D:B<=w.1.size)(G:c.words.length<=5000):
 Calls prog 120 #[Qd b,.string t] w fun z f=>z= .returned (.tuple #[])/\
  (∃ y,eV B b (c.sign t) y f)/\Kp b w f:=by
 obtain⟨x,r,q,p,o⟩:=info_parts info143;have j:=h.wordsAt;have C:=h.start;have m:=h.thawed 1;have k:=h.own;have d:b < w.1.size:=Qp w _ j;have i:some b≠v.ownBlock:=fun e=>by have:=(k.lt b e.symm).1;have:=h.lt;omega
 cases hs:spB t.data.toList
 ·have a:c.sign t=c.fail 1 c.start:=by unfold Cut.sign;rw[hs];rfl
  rw[a];clear a;go_enter func120,ntmps120
  go_wp2_with (first|(go_at_call 181;refine(oE _ _ l).mono ?_;rintro e f ⟨rfl,rfl⟩;rw[hs])|(go_at_call 122;refine(uZ B b c v _ _ _ h).mono ?_;rintro e f ⟨rfl,s,u⟩))
  refine bodyPost_ret (results_none rfl _ _ _) rfl ?_;exact⟨rfl,⟨v,s⟩,u⟩
 ·have a:c.sign t=c.push (spK t.data.toList) 0 (ByteArray.mk #[]):=by unfold Cut.sign;rw[hs];rfl
  rw[a];clear a;go_enter func120,ntmps120
  go_wp2_with (first|(go_at_call 181;refine(oE _ _ l).mono ?_;rintro e f ⟨rfl,rfl⟩;rw[hs]))
  go_region_law
   ((refine step_append_lies _ (by rfl) _ _ _ (by rfl) B 143 x _ 4 40 underlying85 r q p o rfl Oa v c.words.length (fJ c.words) (by rfl) ((k.alloc _).drew)
      ⟨w.1.size,0,none⟩ 1 1 (Tok.cells ⟨spK t.data.toList,c.start,ByteArray.mk #[],0⟩) (by rfl) (by rfl) (World.news_of_block (cs:=#[Qc (spK t.data.toList),Qc c.start,.string (ByteArray.mk #[]),Qc 0]) (t:=143) (fr:=(0,0)) (Qk w _)) (by simp[Tok.cells,Value.oneCell'])
      Oa (by unfold maxLen;omega) Oa (by simp;omega) (w.1.size+1) Od ?_;intro A J K n g E F;have H:=(g.cell_far ⟨b,1,none⟩ (kO d) i).t (sS d j);have I:=(g.frozen_far ⟨b,1,none⟩ (kO d) i).t (xB d m)))
  all_goals go_wp2
  all_goals refine bodyPost_end (results_none rfl _ _ _) rfl ?_
  all_goals exact⟨rfl,eV.pushed h d n g⟩
def bCW(l:List UInt8):Int:=l.foldl (fun a d=>min (a*10+((d.toNat:Int) - 48)) 1000000000) 0
def Cut.number(c:Cut)(t:ByteArray):Cut:=if 999999999 < bCW t.data.toList then c.fail 3 c.start else c.push 2 (bCW t.data.toList) (ByteArray.mk #[])
def bQH(l:List UInt8):Prop:=∀ d∈l,48<=d.toNat/\d.toNat<=57
theorem aFZ(l:List UInt8)(d:UInt8):bCW (l++[d])=min (bCW l*10+((d.toNat:Int) - 48)) 1000000000:=by simp[bCW]
theorem aN9(l:List UInt8):∀ a:Int,0<=a/\a<=1000000000->bQH l->0<=l.foldl (fun a d=>min (a*10+((d.toNat:Int) - 48)) 1000000000) a/\l.foldl (fun a d=>min (a*10+((d.toNat:Int) - 48)) 1000000000) a<=1000000000:=by
 induction l with
 |nil=>grind
 |cons d l ih=>
  intro a h b;have:=b d Od;exact ih _ Qg (fun x c=>b x (by simp[c]))
theorem qZ(l:List UInt8)(h:bQH l):0<=bCW l/\bCW l<=1000000000:=aN9 l 0 Oa h
theorem eV.iter{B b:Nat}{c:Cut}{v:Value}{w:World}(h:eV B b c v w)(a:b < w.1.size)(s:ByteArray)(p:Nat):eV B b c v (w.iter s p):=
 h.kept (Below.heap_alloc w _ b a) (h.own.alloc _)
theorem Kp.iter{b:Nat}{w:World}(a:b < w.1.size)(s:ByteArray)(p:Nat):Kp b w (w.iter s p):=⟨(Below.refl b w).alloc Oa _,(OthersKept.refl 143 (some b) w).alloc _⟩
theorem aCI{s:ByteArray}{k:Nat}(h:k < s.size)(a:bQH s.data.toList):Utf8.decode s k=(s[k].toNat,1)/\48<=s[k].toNat/\s[k].toNat<=57:=by
 have b:=a s[k] (by rw[ByteArray.getElem_eq_getElem_data];simp)
 grind[decode_ascii]
theorem aIS(s:ByteArray)(k:Nat)(h:k < s.size):s.data.toList.take (k+1)=s.data.toList.take k++[s[k]]:=by
 rw[List.take_succ_eq_append_getElem (by simpa using h)];rfl
theorem wI(B b:Nat)(c:Cut)(v:Value)(t:ByteArray)(w:World)(h:eV B b c v w)(E:B<=w.1.size)(Z:c.words.length<=5000)(j:bQH t.data.toList)(hz:t.size<=5000):
 Calls prog 119 #[Qd b,.string t] w fun x m=>x= .returned (.tuple #[])/\
  (∃ R,eV B b (c.number t) R m)/\Kp b w m:=by
 have y:b < w.1.size:=Qp w _ h.wordsAt;go_enter func119,ntmps119
 go_wp2;go_loopw [4] (fun Q wr=>∃ k:Nat,k<=t.size/\wr=w.iter t k/\Q= Qc (bCW (t.data.toList.take k))) (fun _ wr=>t.size - wr.iterPos w.1.size)
 case atStart=>exact⟨0,Oa,rfl,rfl⟩
 case round=>
  obtain⟨k,s,rfl,rfl⟩:=hrel
  by_cases g:k < t.size
  ·have q:∀ d,(Instr.next (Qd w.1.size) true d).run prog (w.iter t k)=_:=fun d=>run_next_any w t k d g;obtain⟨D,Y,X⟩:=aCI g j;rw[D]at q;have F:=qZ (t.data.toList.take k) (fun x G=>j x (List.mem_of_mem_take G));go_wp2;go_roundw
   case rel=>
    refine⟨k+1,g,rfl,?_⟩;rw[aIS t k g,aFZ,Int.min_def]
    split<;>split<;>first|rfl|(exfalso;omega)|(congr 1;omega)
   case measure=>simp;omega
  ·have M:k=t.size:=Oa
   subst M;have q:∀ d,(Instr.next (Qd w.1.size) true d).run prog (w.iter t t.size)=_:=fun d=>run_next_end w t t.size d Oa;have C:t.data.toList.take t.size=t.data.toList:=List.take_of_length_le Od;rw[C];obtain⟨H,O,L,K,I⟩:=info_parts info143;have a:=h.iter y t t.size;have u:=Kp.iter y t t.size;have f:b < (w.iter t t.size).1.size:=Qp _ _ a.wordsAt;have U:B<=(w.iter t t.size).1.size:=Qm E (by show _<=(w.alloc _).1.size;simp);generalize w.iter t t.size=W at*;have A:=a.wordsAt;have T:=a.start;have z:=a.thawed 1;have p:=a.own;have n:some b≠v.ownBlock:=fun e=>by have:=(p.lt b e.symm).1;have:=h.lt;omega
   have F:=qZ t.data.toList j
   by_cases r:999999999 < bCW t.data.toList
   ·have l:Hid (c.number t=c.fail 3 c.start):=if_pos r;go_wp2_with (go_at_call 122;refine(uZ B b c v _ _ _ a).mono ?_;rintro e m ⟨rfl,P,s⟩)
    refine bodyPost_ret (results_none rfl _ _ _) rfl ?_;exact⟨rfl,⟨v,by rw[l.o];exact P⟩,u.t s⟩
   ·have l:Hid (c.number t=c.push 2 (bCW t.data.toList) (ByteArray.mk #[])):=if_neg r;generalize bCW t.data.toList=N at*;go_wp2_with fail
    go_region_law
     ((refine step_append_lies _ (by rfl) _ _ _ (by rfl) B 143 H _ 4 40 underlying85 O L K I rfl Oa v c.words.length (fJ c.words) (by rfl) ((p.alloc _).drew)
        ⟨W.1.size,0,none⟩ 1 1 (Tok.cells ⟨2,c.start,ByteArray.mk #[],N⟩) (by rfl) (by rfl) (World.news_of_block (cs:=#[Qc 2,Qc c.start,.string (ByteArray.mk #[]),Qc N]) (t:=143) (fr:=(0,0)) (Qk W _)) (by simp[Tok.cells,Value.oneCell'])
        Oa (by unfold maxLen;omega) Oa (by simp;omega) (W.1.size+1) Od ?_;intro S J w1 o i V g;have q1:=(i.cell_far ⟨b,1,none⟩ (kO f) n).t (sS f A);have q2:=(i.frozen_far ⟨b,1,none⟩ (kO f) n).t (xB f z)))
    all_goals go_wp2
    all_goals refine bodyPost_end (results_none rfl _ _ _) rfl ?_
    all_goals exact⟨rfl,by rw[l.o];exact(eV.pushed a f o i).1,u.t (eV.pushed a f o i).2⟩
end Go.Proofs.YtikffmloeifkpaaGreatDoor
