/- Contracts. -/
import Derived.Test.YtikffmloeifkpaaGreatDoorQ01
import Derived.Deep.RegionHeld3
import Derived.Deep.RegionLaw
import Derived.Deep.AppendLies
import Derived.Lib.OthersKept
set_option maxHeartbeats 1000000
set_option maxRecDepth 100000
namespace Go.Proofs.YtikffmloeifkpaaGreatDoor
open Go.RowKit Go.Lib
structure Tok where
 kind:Int
 pos:Int
 text:ByteArray
 value:Int
def Tok.cells(t:Tok):List Value:=[.int .i64 t.kind,.int .i64 t.pos,.string t.text,.int .i64 t.value]
def fJ(l:List Tok):List Value:=l.flatMap Tok.cells
theorem bD2(l:List Tok)(t:Tok):fJ (l++[t])=fJ l++t.cells:=by simp[fJ]
structure Cut where
 text:ByteArray
 words:List Tok
 code:Int
 pos:Int
 mode:Int
 start:Int
structure eV(B b:Nat)(c:Cut)(v:Value)(w:World):Prop where
 text:w.cell? ⟨b,0,none⟩=some (.string c.text)
 wordsAt:w.cell? ⟨b,1,none⟩=some v
 code:w.cell? ⟨b,2,none⟩=some (.int .i64 c.code)
 pos:w.cell? ⟨b,3,none⟩=some (.int .i64 c.pos)
 mode:w.cell? ⟨b,4,none⟩=some (.int .i64 c.mode)
 start:w.cell? ⟨b,5,none⟩=some (.int .i64 c.start)
 thawed:∀ o,w.frozen? ⟨b,o,none⟩=false
 own:w.ownsRow B 143 4 v c.words.length (fJ c.words)
 lt:b < B
structure Kp(b:Nat)(w w':World):Prop where
 below:Below b w w'
 others:OthersKept 143 (some b) w w'
theorem Kp.refl(b:Nat)(w:World):Kp b w w:=⟨Below.refl _ _,OthersKept.refl _ _ _⟩
theorem Kp.trans{b:Nat}{u v w:World}(h:Kp b u v)(k:Kp b v w):Kp b u w:=⟨h.below.trans k.below,h.others.trans k.others⟩
theorem Kp.set{b:Nat}{u w:World}(h:Kp b u w)(o:Nat)(v:Value):Kp b u (w.setCell ⟨b,o,none⟩ v):=⟨h.below.setCell (Qc b) v,h.others.setCell _ rfl v⟩
theorem eP{w:World}{b o:Nat}{x y:Value}(h:w.cell? ⟨b,o,none⟩=some y)(o':Nat):(w.setCell ⟨b,o,none⟩ x).cell? ⟨b,o',none⟩=if o'=o then some x else w.cell? ⟨b,o',none⟩:=by
 by_cases e:o'=o
 ·subst e;rw[if_pos rfl];exact World.cell?_setCell_same _ _ _ h
 ·rw[if_neg e];exact World.cell?_setCell_other _ _ _ _ (fun h=>e (congrArg Addr.off h).symm)
theorem eV.setCode{B b:Nat}{c:Cut}{v:Value}{w:World}(h:eV B b c v w)(m:Int):eV B b {c with code:=m} v (w.setCell ⟨b,2,none⟩ (.int .i64 m)):=
 {text:=by rw[eP h.code];exact h.text,wordsAt:=by rw[eP h.code];exact h.wordsAt,code:=by rw[eP h.code];rfl,pos:=by rw[eP h.code];exact h.pos,mode:=by rw[eP h.code];exact h.mode,start:=by rw[eP h.code];exact h.start,thawed:=fun o=>by rw[World.frozen?_setCell];exact h.thawed o,own:=ownsRow_setCell_below h.own h.lt _,lt:=h.lt}
theorem eV.setPos{B b:Nat}{c:Cut}{v:Value}{w:World}(h:eV B b c v w)(m:Int):eV B b {c with pos:=m} v (w.setCell ⟨b,3,none⟩ (.int .i64 m)):=
 {text:=by rw[eP h.pos];exact h.text,wordsAt:=by rw[eP h.pos];exact h.wordsAt,code:=by rw[eP h.pos];exact h.code,pos:=by rw[eP h.pos];rfl,mode:=by rw[eP h.pos];exact h.mode,start:=by rw[eP h.pos];exact h.start,thawed:=fun o=>by rw[World.frozen?_setCell];exact h.thawed o,own:=ownsRow_setCell_below h.own h.lt _,lt:=h.lt}
theorem eV.setMode{B b:Nat}{c:Cut}{v:Value}{w:World}(h:eV B b c v w)(m:Int):eV B b {c with mode:=m} v (w.setCell ⟨b,4,none⟩ (.int .i64 m)):=
 {text:=by rw[eP h.mode];exact h.text,wordsAt:=by rw[eP h.mode];exact h.wordsAt,code:=by rw[eP h.mode];exact h.code,pos:=by rw[eP h.mode];exact h.pos,mode:=by rw[eP h.mode];rfl,start:=by rw[eP h.mode];exact h.start,thawed:=fun o=>by rw[World.frozen?_setCell];exact h.thawed o,own:=ownsRow_setCell_below h.own h.lt _,lt:=h.lt}
theorem eV.setStart{B b:Nat}{c:Cut}{v:Value}{w:World}(h:eV B b c v w)(m:Int):eV B b {c with start:=m} v (w.setCell ⟨b,5,none⟩ (.int .i64 m)):=
 {text:=by rw[eP h.start];exact h.text,wordsAt:=by rw[eP h.start];exact h.wordsAt,code:=by rw[eP h.start];exact h.code,pos:=by rw[eP h.start];exact h.pos,mode:=by rw[eP h.start];exact h.mode,start:=by rw[eP h.start];rfl,thawed:=fun o=>by rw[World.frozen?_setCell];exact h.thawed o,own:=ownsRow_setCell_below h.own h.lt _,lt:=h.lt}
theorem eV.setWords{B b:Nat}{c:Cut}{v v':Value}{w w':World}{l:List Tok}(h:eV B b c v w)(hk:w'.heap[b]?=w.heap[b]?)(ho:w'.ownsRow B 143 4 v' l.length (fJ l)):
 eV B b {c with words:=l} v' (w'.setCell ⟨b,1,none⟩ v'):=by
 have hc:∀ o,w'.cell? ⟨b,o,none⟩=w.cell? ⟨b,o,none⟩:=fun o=>Qf hk;have hf:∀ o,w'.frozen? ⟨b,o,none⟩=w.frozen? ⟨b,o,none⟩:=fun o=>World.frozen?_of_block hk;have h1:=(hc 1).trans h.wordsAt;exact {text:=by rw[eP h1];exact(hc 0).trans h.text,wordsAt:=by rw[eP h1];rfl,code:=by rw[eP h1];exact(hc 2).trans h.code,pos:=by rw[eP h1];exact(hc 3).trans h.pos,mode:=by rw[eP h1];exact(hc 4).trans h.mode,start:=by rw[eP h1];exact(hc 5).trans h.start,thawed:=fun o=>by rw[World.frozen?_setCell];exact(hf o).trans (h.thawed o),own:=ownsRow_setCell_below ho h.lt _,lt:=h.lt}
theorem eV.kept{B b:Nat}{c:Cut}{v:Value}{w w':World}(h:eV B b c v w)(hb:w'.heap[b]?=w.heap[b]?)(hr:w'.ownsRow B 143 4 v c.words.length (fJ c.words)):eV B b c v w':=
 {text:=(Qf (a:=⟨b,0,none⟩) hb).trans h.text,wordsAt:=(Qf (a:=⟨b,1,none⟩) hb).trans h.wordsAt,code:=(Qf (a:=⟨b,2,none⟩) hb).trans h.code,pos:=(Qf (a:=⟨b,3,none⟩) hb).trans h.pos,mode:=(Qf (a:=⟨b,4,none⟩) hb).trans h.mode,start:=(Qf (a:=⟨b,5,none⟩) hb).trans h.start,thawed:=fun o=>(World.frozen?_of_block (a:=⟨b,o,none⟩) hb).trans (h.thawed o),own:=hr,lt:=h.lt}
theorem sS{w:World}{o:Obj}{b k:Nat}{x:Value}(hb:b < w.heap.size)(h:w.cell? ⟨b,k,none⟩=some x):(w.alloc o).drew.cell? ⟨b,k,none⟩=some x:=by
 show(w.alloc o).cell? _=_;rw[World.cell?_alloc_past _ _ _ hb];exact h
theorem xB{w:World}{o:Obj}{b k:Nat}(hb:b < w.heap.size)(h:w.frozen? ⟨b,k,none⟩=false):(w.alloc o).drew.frozen? ⟨b,k,none⟩=false:=by
 show(w.alloc o).frozen? _=_;rw[World.frozen?_alloc_past _ _ _ hb];exact h
theorem kO{w:World}{o:Obj}{b:Nat}(hb:b < w.heap.size):b < (w.alloc o).drew.heap.size:=by
 show b < (w.alloc o).heap.size;simp;omega
theorem eV.pushed{B b:Nat}{c:Cut}{v v':Value}{w w1:World}{tk:Tok}{C:Array Value}(h:eV B b c v w)(hb:b < w.heap.size)(h1:w1.ownsRow B 143 4 v' (c.words.length+1) (fJ c.words++tk.cells))(hg:(w.alloc (.cells C 143)).drew.grownBy w1 v.ownBlock):
 (∃ v2,eV B b {c with words:=c.words++[tk]} v2 (w1.setCell ⟨b,1,none⟩ v'))/\Kp b w (w1.setCell ⟨b,1,none⟩ v'):=by
 have ag:some b≠v.ownBlock:=fun e=>by have:=(h.own.lt b e.symm).1;have:=h.lt;omega
 have hs:w.heap.size+1=(w.alloc (.cells C 143)).drew.heap.size:=by show _=(w.alloc (.cells C 143)).heap.size;simp
 have h4:w1.heap[b]?=w.heap[b]?:=(hg.block b (kO hb) ag).trans (Below.heap_alloc w _ b hb);refine⟨⟨v',h.setWords h4 (by rw[bD2,List.length_append];exact h1)⟩,Kp.set ⟨?_,?_⟩ 1 v'⟩
 ·refine Below.grown ((Below.refl b w).alloc (Nat.le_of_lt hb) _).drew hg (Nat.le_of_lt (kO hb)) (fun k hk=>?_);have:=(h.own.lt k hk).1;have:=h.lt;omega
 ·refine OthersKept.grown ((OthersKept.refl 143 (some b) w).alloc _).drew hg (fun g h0=>?_);have h2:=(h.own.lt g h0).2;rcases h.own.2 with⟨rfl,_⟩|⟨g',cap,cur,rfl,_,h3,_⟩
  ·simp[Value.ownBlock]at h0
  ·simp[Value.ownBlock]at h0;subst h0;exact⟨cur,(0,0),(Below.heap_alloc w _ g' h2).trans h3⟩
def Cut.fail(c:Cut)(e p:Int):Cut:=if c.code=0 then {c with code:=e,pos:=p}else c
theorem uZ(B b:Nat)(c:Cut)(v:Value)(e p:Int)(w:World)(h:eV B b c v w):
 Calls Tryz.prog 122 #[.pointer (some ⟨b,0,none⟩),.int .i64 e,.int .i64 p] w fun x w'=>x= .returned (.tuple #[])/\
  eV B b (c.fail e p) v w'/\Kp b w w':=by
 have h2:=h.code;have h3:=h.pos;have f2:=h.thawed 2;have f3:=h.thawed 3
 by_cases hc:c.code=0
 ·rw[hc]at h2;have hf:c.fail e p={c with code:=e,pos:=p}:=if_pos hc;rw[hf];clear hf hc;go_enter Tryz.func122,Tryz.ntmps122
  go_wp2;go_end0
  exact⟨rfl,(h.setCode e).setPos p,((Kp.refl b w).set 2 _).set 3 _⟩
 ·have hf:c.fail e p=c:=if_neg hc;rw[hf];have hn:(c.code==0)=false:=by simpa using hc
  clear hf hc;go_enter Tryz.func122,Tryz.ntmps122
  go_wp2;go_end0
  exact⟨rfl,h,Kp.refl b w⟩
theorem Tryz.info143:(Tryz.prog.info? 143).map (fun i=>(i.zero,i.size,i.bytes))=some (some (.agg #[.int .i64 0,.int .i64 0,.string (ByteArray.mk #[]),.int .i64 0]),4,40):=by kernel_rfl
def Cut.push(c:Cut)(k v:Int)(t:ByteArray):Cut:={c with words:=c.words++[⟨k,c.start,t,v⟩]}
def Cut.sign(c:Cut)(t:ByteArray):Cut:=if spB t.data.toList then c.push (spK t.data.toList) 0 (ByteArray.mk #[])else c.fail 1 c.start
theorem zQ(B b:Nat)(c:Cut)(v:Value)(t:ByteArray)(w:World)(h:eV B b c v w)(ht:Tab w)(hB:B<=w.heap.size)(hn:c.words.length<=5000):
 Calls Tryz.prog 120 #[.pointer (some ⟨b,0,none⟩),.string t] w fun x w'=>x= .returned (.tuple #[])/\
  (∃ v',eV B b (c.sign t) v' w')/\Kp b w w':=by
 obtain⟨i0,h8,h7,h6,h4⟩:=info_parts Tryz.info143;have h1:=h.wordsAt;have h5:=h.start;have f1:=h.thawed 1;have h3:=h.own;have lg:b < w.heap.size:=Qg w _ h1;have ag:some b≠v.ownBlock:=fun e=>by have:=(h3.lt b e.symm).1;have:=h.lt;omega
 cases hs:spB t.data.toList
 ·have hf:c.sign t=c.fail 1 c.start:=by unfold Cut.sign;rw[hs];rfl
  rw[hf];clear hf;go_enter Tryz.func120,Tryz.ntmps120
  go_wp2_with (first|(go_at_call 181;refine(oE _ _ ht).mono ?_;rintro e w' ⟨rfl,rfl⟩;rw[hs])|(go_at_call 122;refine(uZ B b c v _ _ _ h).mono ?_;rintro e w' ⟨rfl,h9,hk⟩))
  refine bodyPost_ret (results_none rfl _ _ _) rfl ?_;exact⟨rfl,⟨v,h9⟩,hk⟩
 ·have hf:c.sign t=c.push (spK t.data.toList) 0 (ByteArray.mk #[]):=by unfold Cut.sign;rw[hs];rfl
  rw[hf];clear hf;go_enter Tryz.func120,Tryz.ntmps120
  go_wp2_with (first|(go_at_call 181;refine(oE _ _ ht).mono ?_;rintro e w' ⟨rfl,rfl⟩;rw[hs]))
  go_region_law
   ((refine step_append_lies _ (by rfl) _ _ _ (by rfl) B 143 i0 _ 4 40 Tryz.underlying85 h8 h7 h6 h4 rfl Oa v c.words.length (fJ c.words) (by rfl) ((h3.alloc _).drew)
      ⟨w.heap.size,0,none⟩ 1 1 (Tok.cells ⟨spK t.data.toList,c.start,ByteArray.mk #[],0⟩) (by rfl) (by rfl) (World.news_of_block (cs:=#[.int .i64 (spK t.data.toList),.int .i64 c.start,.string (ByteArray.mk #[]),.int .i64 0]) (t:=143) (fr:=(0,0)) (Qb w _)) (by simp[Tok.cells,Value.oneCell'])
      Oa (by unfold maxLen;omega) Oa (by simp;omega) (w.heap.size+1) Od ?_;intro gg cap w1 h2 h0 hat hlt;have q1:=(h0.cell_far ⟨b,1,none⟩ (kO lg) ag).trans (sS lg h1);have q2:=(h0.frozen_far ⟨b,1,none⟩ (kO lg) ag).trans (xB lg f1)))
  all_goals go_wp2
  all_goals refine bodyPost_end (results_none rfl _ _ _) rfl ?_
  all_goals exact⟨rfl,eV.pushed h lg h2 h0⟩
def bCW(l:List UInt8):Int:=l.foldl (fun a d=>min (a*10+((d.toNat:Int) - 48)) 1000000000) 0
def Cut.number(c:Cut)(t:ByteArray):Cut:=if 999999999 < bCW t.data.toList then c.fail 3 c.start else c.push 2 (bCW t.data.toList) (ByteArray.mk #[])
def wS(l:List UInt8):Prop:=∀ d∈l,48<=d.toNat/\d.toNat<=57
theorem aFZ(l:List UInt8)(d:UInt8):bCW (l++[d])=min (bCW l*10+((d.toNat:Int) - 48)) 1000000000:=by simp[bCW]
theorem aN9(l:List UInt8):∀ a:Int,0<=a/\a<=1000000000->wS l->0<=l.foldl (fun a d=>min (a*10+((d.toNat:Int) - 48)) 1000000000) a/\l.foldl (fun a d=>min (a*10+((d.toNat:Int) - 48)) 1000000000) a<=1000000000:=by
 induction l with
 |nil=>intro a h _;exact h
 |cons d l ih=>
  intro a h hd;have:=hd d Od;exact ih _ (by simp only[];omega) (fun x hx=>hd x (by simp[hx]))
theorem qZ(l:List UInt8)(h:wS l):0<=bCW l/\bCW l<=1000000000:=aN9 l 0 Oa h
theorem eV.iter{B b:Nat}{c:Cut}{v:Value}{w:World}(h:eV B b c v w)(hb:b < w.heap.size)(s:ByteArray)(p:Nat):eV B b c v (w.iter s p):=
 h.kept (Below.heap_alloc w _ b hb) (h.own.alloc _)
theorem Kp.iter{b:Nat}{w:World}(hb:b < w.heap.size)(s:ByteArray)(p:Nat):Kp b w (w.iter s p):=⟨(Below.refl b w).alloc (Nat.le_of_lt hb) _,(OthersKept.refl 143 (some b) w).alloc _⟩
theorem aCI{s:ByteArray}{k:Nat}(h:k < s.size)(hd:wS s.data.toList):Utf8.decode s k=(s[k].toNat,1)/\48<=s[k].toNat/\s[k].toNat<=57:=by
 have h1:=hd s[k] (by rw[ByteArray.getElem_eq_getElem_data];simp);exact⟨decode_ascii s k h Oa,h1⟩
theorem aIS(s:ByteArray)(k:Nat)(h:k < s.size):s.data.toList.take (k+1)=s.data.toList.take k++[s[k]]:=by
 rw[List.take_succ_eq_append_getElem (by simpa using h)];rfl
theorem wI(B b:Nat)(c:Cut)(v:Value)(t:ByteArray)(w:World)(h:eV B b c v w)(hB:B<=w.heap.size)(hn:c.words.length<=5000)(hd:wS t.data.toList)(hz:t.size<=5000):
 Calls Tryz.prog 119 #[.pointer (some ⟨b,0,none⟩),.string t] w fun x w'=>x= .returned (.tuple #[])/\
  (∃ v',eV B b (c.number t) v' w')/\Kp b w w':=by
 have lg:b < w.heap.size:=Qg w _ h.wordsAt;go_enter Tryz.func119,Tryz.ntmps119
 go_wp2;go_loopw [4] (fun n wr=>∃ k:Nat,k<=t.size/\wr=w.iter t k/\n= .int .i64 (bCW (t.data.toList.take k))) (fun _ wr=>t.size - wr.iterPos w.heap.size)
 case atStart=>exact⟨0,Oa,rfl,rfl⟩
 case round=>
  obtain⟨k,hk,rfl,rfl⟩:=hrel
  by_cases h4:k < t.size
  ·have h8:∀ ty,(Instr.next (.pointer (some ⟨w.heap.size,0,none⟩)) true ty).run Tryz.prog (w.iter t k)=_:=fun ty=>run_next_any w t k ty h4;obtain⟨h7,hlo,hhi⟩:=aCI h4 hd;rw[h7]at h8;have hr:=qZ (t.data.toList.take k) (fun x hx=>hd x (List.mem_of_mem_take hx));go_wp2;go_roundw
   case rel=>
    refine⟨k+1,h4,rfl,?_⟩;rw[aIS t k h4,aFZ,Int.min_def]
    split<;>split<;>first|rfl|(exfalso;omega)|(congr 1;omega)
   case measure=>simp;omega
  ·have k3:k=t.size:=Oa
   subst k3;have h8:∀ ty,(Instr.next (.pointer (some ⟨w.heap.size,0,none⟩)) true ty).run Tryz.prog (w.iter t t.size)=_:=fun ty=>run_next_end w t t.size ty Oa;have h6:t.data.toList.take t.size=t.data.toList:=List.take_of_length_le Od;rw[h6];obtain⟨i0,k4,k2,k1,k0⟩:=info_parts Tryz.info143;have h':=h.iter lg t t.size;have k':=Kp.iter lg t t.size;have lg':b < (w.iter t t.size).heap.size:=Qg _ _ h'.wordsAt;have hB':B<=(w.iter t t.size).heap.size:=Qd hB (by show _<=(w.alloc _).heap.size;simp);generalize w.iter t t.size=W at*;have h1:=h'.wordsAt;have h5:=h'.start;have f1:=h'.thawed 1;have h3:=h'.own;have ag:some b≠v.ownBlock:=fun e=>by have:=(h3.lt b e.symm).1;have:=h.lt;omega
   have hr:=qZ t.data.toList hd
   by_cases h9:999999999 < bCW t.data.toList
   ·have hf:Hid (c.number t=c.fail 3 c.start):=if_pos h9;go_wp2_with (go_at_call 122;refine(uZ B b c v _ _ _ h').mono ?_;rintro e w' ⟨rfl,k5,hk⟩)
    refine bodyPost_ret (results_none rfl _ _ _) rfl ?_;exact⟨rfl,⟨v,by rw[hf.out];exact k5⟩,k'.trans hk⟩
   ·have hf:Hid (c.number t=c.push 2 (bCW t.data.toList) (ByteArray.mk #[])):=if_neg h9;generalize bCW t.data.toList=N at*;go_wp2_with fail
    go_region_law
     ((refine step_append_lies _ (by rfl) _ _ _ (by rfl) B 143 i0 _ 4 40 Tryz.underlying85 k4 k2 k1 k0 rfl Oa v c.words.length (fJ c.words) (by rfl) ((h3.alloc _).drew)
        ⟨W.heap.size,0,none⟩ 1 1 (Tok.cells ⟨2,c.start,ByteArray.mk #[],N⟩) (by rfl) (by rfl) (World.news_of_block (cs:=#[.int .i64 2,.int .i64 c.start,.string (ByteArray.mk #[]),.int .i64 N]) (t:=143) (fr:=(0,0)) (Qb W _)) (by simp[Tok.cells,Value.oneCell'])
        Oa (by unfold maxLen;omega) Oa (by simp;omega) (W.heap.size+1) Od ?_;intro gg cap w1 h2 h0 hat h4;have q1:=(h0.cell_far ⟨b,1,none⟩ (kO lg') ag).trans (sS lg' h1);have q2:=(h0.frozen_far ⟨b,1,none⟩ (kO lg') ag).trans (xB lg' f1)))
    all_goals go_wp2
    all_goals refine bodyPost_end (results_none rfl _ _ _) rfl ?_
    all_goals exact⟨rfl,by rw[hf.out];exact(eV.pushed h' lg' h2 h0).1,k'.trans (eV.pushed h' lg' h2 h0).2⟩
end Go.Proofs.YtikffmloeifkpaaGreatDoor
