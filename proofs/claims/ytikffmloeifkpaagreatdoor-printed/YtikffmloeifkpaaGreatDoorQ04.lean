/- Contracts. -/
import Derived.Test.YtikffmloeifkpaaGreatDoorQ02
import Derived.Test.YtikffmloeifkpaaGreatDoorQ03
import Derived.BigQuiet
import Derived.Deep.QuietTactic
set_option maxHeartbeats 2000000
set_option maxRecDepth 100000
namespace Go.Proofs.YtikffmloeifkpaaGreatDoor
open Go.RowKit Go.Lib
theorem Tab.below{b:Nat}{w w':World}(h:Tab w)(hb:Below b w w')(h0:0 < b):Tab w':=fun i hi=>(hb.cell (p:=⟨0,i,none⟩) h0).trans (h i hi)
theorem eV.below{B b:Nat}{c:Cut}{v:Value}{w w':World}(h:eV B b c v w)(hb:Below w.heap.size w w'):eV B b c v w':=by
 have lg:b < w.heap.size:=Qg w _ h.wordsAt;refine h.kept (hb.block b lg) ⟨h.own.1,?_⟩;rcases h.own.2 with h2|⟨g,cap,cur,hv,hg,hh,r⟩
 ·exact Or.inl h2
 ·exact Or.inr ⟨g,cap,cur,hv,hg,(hb.block g (by rcases Qk g w.heap.size with h|h;exact h;rw[Array.getElem?_eq_none h]at hh;cases hh)).trans hh,r⟩
theorem Kp.of_below{b:Nat}{w w':World}(hb:Below w.heap.size w w')(h:b < w.heap.size):Kp b w w':=
 ⟨hb.mono (Nat.le_of_lt h),fun k o hk _ _=>(hb.block k (by rcases Qk k w.heap.size with h|h;exact h;rw[Array.getElem?_eq_none h]at hk;cases hk)).trans hk⟩
def vH(s:ByteArray)(p:Nat)(r:Int):Bool:=decide (r=65533)&&!(Lib.hasPrefix (s.data.toList.drop p) [239,191,189])
theorem aC7(B b:Nat)(c:Cut)(v:Value)(p:Nat)(r:Int)(w:World)(h:eV B b c v w)(hp:p<=c.text.size)(_hz:c.text.size<=5000):
 Calls Tryz.prog 114 #[.pointer (some ⟨b,0,none⟩),.int .i64 p,.int .i32 r] w fun x w'=>x= .returned (.bool (vH c.text p r))/\w=w':=by
 have h0:=h.text
 by_cases hr:r=65533
 ·subst hr;go_enter Tryz.func114,Tryz.ntmps114
  go_wp2_with (go_at_call 179;refine(bCT _ _ _).mono ?_;rintro e w' ⟨rfl,rfl⟩)
  go_ret;refine⟨bX ?_,rfl⟩;rw[List.take_of_length_le Od];simp[vH]
 ·have hd:(r==65533)=false:=by simpa using hr
  go_enter Tryz.func114,Tryz.ntmps114
  go_wp2;go_ret;exact⟨bX (by simp[vH,hr]),rfl⟩
theorem aEV(r:Int):(Utf8.encode r).size<=4:=by
 unfold Utf8.encode;dsimp only
 repeat' split
 all_goals simp[ByteArray.size]
theorem aOD(s e:ByteArray)(a b:Nat):(s.extract a b++e).data.toList=(s.data.toList.take b).drop a++e.data.toList:=by
 rw[ByteArray.data_append,Array.toList_append,ByteArray.data_extract]
 congr 1
 simp[List.drop_take]
theorem eV.drewN{B b:Nat}{c:Cut}{v:Value}{w:World}(h:eV B b c v w)(n:Nat):eV B b c v (w.drewN n):=h.kept rfl ⟨h.own.1,h.own.2⟩
theorem Kp.drewN(b:Nat)(w:World)(n:Nat):Kp b w (w.drewN n):=⟨⟨rfl,rfl,rfl,Qc _,fun _ _=>rfl⟩,fun _ _ h _ _=>h⟩
def Cut.goes(c:Cut)(p:Nat)(r:Int):Bool:=
 if c.mode=1 then r !=10&&!(vH c.text p r)
 else if c.mode=2 then oK r||kZ r
 else if c.mode=3 then kZ r
 else if c.mode=4 then bsB ((c.text.data.toList.take p).drop c.start.toNat++(Utf8.encode r).data.toList)
 else false
theorem aGB(B b:Nat)(c:Cut)(v:Value)(p:Nat)(r:Int)(w:World)(h:eV B b c v w)(ht:Tab w)(hp:p<=c.text.size)(hz:c.text.size<=5000)(hs:0<=c.start/\c.start<=p):
 Calls Tryz.prog 68 #[.pointer (some ⟨b,0,none⟩),.int .i64 p,.int .i32 r] w fun x w'=>x= .returned (.bool (c.goes p r))/\eV B b c v w'/\Kp b w w':=by
 have h0:=h.text;have h4:=h.mode;have h5:=h.start
 by_cases m1:c.mode=1
 ·have hf:Hid (c.goes p r=(r !=10&&!(vH c.text p r))):=if_pos m1;rw[m1]at h4
  by_cases hr:r=10
  ·subst hr;go_enter Tryz.func68,Tryz.ntmps68
   go_wp2;go_ret;exact⟨bX (by rw[hf.out];rfl),h,Kp.refl b w⟩
  ·have hd:(r !=10)=true:=by simpa using hr
   go_enter Tryz.func68,Tryz.ntmps68
   go_wp2_with (go_at_call 114;refine(aC7 B b c v p r _ h hp hz).mono ?_;rintro e w' ⟨rfl,rfl⟩)
   go_ret;exact⟨bX (by rw[hf.out,hd];rfl),h,Kp.refl b w⟩
 have n1:(c.mode==1)=false:=by simpa using m1
 by_cases m2:c.mode=2
 ·have hf:Hid (c.goes p r=(oK r||kZ r)):=by unfold Hid Cut.goes;rw[if_neg m1,if_pos m2]
  rw[m2]at h4;cases hl:oK r
  ·go_enter Tryz.func68,Tryz.ntmps68
   go_wp2_with (first|(go_at_call 115;refine(jN r _).mono ?_;rintro e w' ⟨rfl,rfl⟩;rw[hl])|(go_at_call 116;refine(kP r _).mono ?_;rintro e w' ⟨rfl,rfl⟩))
   go_ret;exact⟨bX (by rw[hf.out,hl];rfl),h,Kp.refl b w⟩
  ·go_enter Tryz.func68,Tryz.ntmps68
   go_wp2_with (first|(go_at_call 115;refine(jN r _).mono ?_;rintro e w' ⟨rfl,rfl⟩;rw[hl])|(go_at_call 116;refine(kP r _).mono ?_;rintro e w' ⟨rfl,rfl⟩))
   go_ret;exact⟨bX (by rw[hf.out,hl];rfl),h,Kp.refl b w⟩
 have n2:(c.mode==2)=false:=by simpa using m2
 by_cases m3:c.mode=3
 ·have hf:Hid (c.goes p r=kZ r):=by unfold Hid Cut.goes;rw[if_neg m1,if_neg m2,if_pos m3]
  rw[m3]at h4;go_enter Tryz.func68,Tryz.ntmps68
  go_wp2_with (first|(go_at_call 116;refine(kP r _).mono ?_;rintro e w' ⟨rfl,rfl⟩))
  go_ret;exact⟨bX (by rw[hf.out]),h,Kp.refl b w⟩
 have n3:(c.mode==3)=false:=by simpa using m3
 by_cases m4:c.mode=4
 ·have hf:Hid (c.goes p r=bsB ((c.text.data.toList.take p).drop c.start.toNat++(Utf8.encode r).data.toList)):=by unfold Hid Cut.goes;rw[if_neg m1,if_neg m2,if_neg m3,if_pos m4]
  rw[m4]at h4;obtain⟨st,h2⟩:∃ st:Nat,c.start=st:=⟨c.start.toNat,Oa⟩;rw[h2]at h5;have hsp:st<=p:=Oa
  have h1:(c.text.extract st p).size+(Utf8.encode r).size<=9223372036854775807:=by
   have:=aEV r;rw[ByteArray.size_extract];omega
  have h3:∀ n,Tab (w.drewN n):=fun n i hi=>ht i hi;have hadd:=fun wx=>run_string_add_sum (P:=Tryz.prog) wx (c.text.extract st p) (Utf8.encode r) h1;go_enter Tryz.func68,Tryz.ntmps68
  go_wp2;go_quiet ((go_at_call 117;exact Calls.quiet_of_same ((nV _ _ (h3 _)).mono fun _ _ hq=>⟨hq.1,hq.2.symm⟩)))
  go_wp2;go_ret;exact⟨bX (by rw[hf.out,h2,Int.toNat_natCast,<-aOD]),h.drewN nq,Kp.drewN b w nq⟩
 ·have n4:(c.mode==4)=false:=by simpa using m4
  have hf:Hid (c.goes p r=false):=by unfold Hid Cut.goes;rw[if_neg m1,if_neg m2,if_neg m3,if_neg m4]
  go_enter Tryz.func68,Tryz.ntmps68
  go_wp2;go_ret;exact⟨bX (by rw[hf.out]),h,Kp.refl b w⟩
def Cut.begins(c:Cut)(p r:Int):Cut:=
 if aA0 r then {c with start:=p,mode:=0}
 else if r=35 then {c with start:=p,mode:=1}
 else if oK r then {c with start:=p,mode:=2}
 else if kZ r then {c with start:=p,mode:=3}
 else if bsB (Utf8.encode r).data.toList then {c with start:=p,mode:=4}
 else({c with start:=p}:Cut).fail 1 p
theorem aKX(B b:Nat)(c:Cut)(v:Value)(p r:Int)(w:World)(h:eV B b c v w)(ht:Tab w)(h0:0 < b):
 Calls Tryz.prog 70 #[.pointer (some ⟨b,0,none⟩),.int .i64 p,.int .i32 r] w fun x w'=>x= .returned (.tuple #[])/\eV B b (c.begins p r) v w'/\Kp b w w':=by
 have h4:=h.mode;have h5:=h.start;have f4:=h.thawed 4;have f5:=h.thawed 5;have hs:=h.setStart p;have ks:=(Kp.refl b w).set 5 (.int .i64 p);have ts:=ht.below ks.below h0;have h4':=hs.mode;have f4':=hs.thawed 4;cases e1:aA0 r
 ·by_cases e2:r=35
  ·subst e2;go_enter Tryz.func70,Tryz.ntmps70
   go_wp2_with (first|(go_at_call 121;refine(kQ _ _).mono ?_;rintro e w' ⟨rfl,rfl⟩;rw[e1]))
   go_end0
   exact⟨rfl,by unfold Cut.begins;rw[e1,if_neg Od,if_pos rfl];exact hs.setMode 1,ks.set 4 _⟩
  ·have e2':(r==35)=false:=by simpa using e2
   cases e3:oK r
   ·cases e4:kZ r
    ·cases e5:bsB (Utf8.encode r).data.toList
     ·go_enter Tryz.func70,Tryz.ntmps70
      go_wp2_with (first|(go_at_call 121;refine(kQ _ _).mono ?_;rintro e w' ⟨rfl,rfl⟩;rw[e1])|(go_at_call 115;refine(jN _ _).mono ?_;rintro e w' ⟨rfl,rfl⟩;rw[e3])|(go_at_call 116;refine(kP _ _).mono ?_;rintro e w' ⟨rfl,rfl⟩;rw[e4])|(go_at_call 117;refine(nV _ _ ts).mono ?_;rintro e w' ⟨rfl,rfl⟩;rw[e5])|(go_at_call 122;refine(uZ B b _ v _ _ _ hs).mono ?_;rintro e w' ⟨rfl,h1,hk⟩))
      go_end0
      exact⟨rfl,by unfold Cut.begins;rw[e1,e3,e4,e5,if_neg Od,if_neg e2];exact h1,ks.trans hk⟩
     ·go_enter Tryz.func70,Tryz.ntmps70
      go_wp2_with (first|(go_at_call 121;refine(kQ _ _).mono ?_;rintro e w' ⟨rfl,rfl⟩;rw[e1])|(go_at_call 115;refine(jN _ _).mono ?_;rintro e w' ⟨rfl,rfl⟩;rw[e3])|(go_at_call 116;refine(kP _ _).mono ?_;rintro e w' ⟨rfl,rfl⟩;rw[e4])|(go_at_call 117;refine(nV _ _ ts).mono ?_;rintro e w' ⟨rfl,rfl⟩;rw[e5]))
      go_end0
      exact⟨rfl,by unfold Cut.begins;rw[e1,e3,e4,e5,if_neg Od,if_neg e2];exact hs.setMode 4,ks.set 4 _⟩
    ·go_enter Tryz.func70,Tryz.ntmps70
     go_wp2_with (first|(go_at_call 121;refine(kQ _ _).mono ?_;rintro e w' ⟨rfl,rfl⟩;rw[e1])|(go_at_call 115;refine(jN _ _).mono ?_;rintro e w' ⟨rfl,rfl⟩;rw[e3])|(go_at_call 116;refine(kP _ _).mono ?_;rintro e w' ⟨rfl,rfl⟩;rw[e4]))
     go_end0
     exact⟨rfl,by unfold Cut.begins;rw[e1,e3,e4,if_neg Od,if_neg e2];exact hs.setMode 3,ks.set 4 _⟩
   ·go_enter Tryz.func70,Tryz.ntmps70
    go_wp2_with (first|(go_at_call 121;refine(kQ _ _).mono ?_;rintro e w' ⟨rfl,rfl⟩;rw[e1])|(go_at_call 115;refine(jN _ _).mono ?_;rintro e w' ⟨rfl,rfl⟩;rw[e3]))
    go_end0
    exact⟨rfl,by unfold Cut.begins;rw[e1,e3,if_neg Od,if_neg e2];exact hs.setMode 2,ks.set 4 _⟩
 ·go_enter Tryz.func70,Tryz.ntmps70
  go_wp2_with (first|(go_at_call 121;refine(kQ _ _).mono ?_;rintro e w' ⟨rfl,rfl⟩;rw[e1]))
  go_end0
  exact⟨rfl,by unfold Cut.begins;rw[e1,if_pos rfl];exact hs.setMode 0,ks.set 4 _⟩
def Cut.named(c:Cut)(t:ByteArray):Cut:=
 if 12 < Lib.runeCount t then c.fail 1 c.start else if spB t.data.toList then c.push (spK t.data.toList) 0 (ByteArray.mk #[])else c.push 1 0 t
theorem aL4(s:ByteArray)(w:World)(h0:s.size<=281474976710656):
 Calls Tryz.prog 182 #[.string s] w fun e w'=>e= .returned (.string s)/\Below w.heap.size w w':=by
 go_enter Tryz.func182,Tryz.ntmps182
 go_wp2_with (go_at_call 240;refine(Tryz.stringslite_Clone s _ h0).mono ?_;rintro e w' ⟨rfl,hb⟩)
 go_ret;exact⟨rfl,hb⟩
theorem eC{P:Program}{ops:Array Oper}{o:Oper}{a:Act}{w:World}{K:Act->World->Prop}{Q:Exit->Act->World->Prop}{E:Prop}(h1:o.guard=none)(f:FuncId)(args:Array Value)(R:Ending->World->Prop)(h0:(execOp a.eval o).run P w= .ok (.enter f args) w)(hc:Calls P f args w R)(h:∀ e w',R e w'->∃ v,e= .returned v/\K (a.put o.dst v) w'):
 if Region.wanted o (yielded ops a.tmps)=true then Oper.wp P o a w K Q else E:=by
 have hw:Region.wanted o (yielded ops a.tmps)=true:=by simp[Region.wanted,h1]
 rw[if_pos hw];unfold Oper.wp;rw[h0,Oper.upon_enter];refine hc.mono ?_;intro e w' hr;obtain⟨v,rfl,hk⟩:=h e w' hr;exact hk
theorem zI{w w':World}{r:Option Nat}(h:w.grownBy w' r):w.drew.grownBy w' r:=⟨h.os,h.tape,h.output,h.size,h.block⟩
theorem zR(B b:Nat)(c:Cut)(v:Value)(t:ByteArray)(w:World)(h:eV B b c v w)(ht:Tab w)(h0:0 < b)(hB:B<=w.heap.size)(hn:c.words.length<=5000)(hz:t.size<=5000):
 Calls Tryz.prog 118 #[.pointer (some ⟨b,0,none⟩),.string t] w fun x w'=>x= .returned (.tuple #[])/\
  (∃ v',eV B b (c.named t) v' w')/\Kp b w w':=by
 have lg:b < w.heap.size:=Qg w _ h.wordsAt;obtain⟨i0,k6,k4,k3,k2⟩:=info_parts Tryz.info143;have hrc:(Lib.runeCount t:Int)<=5000:=by have:=Lib.runeCount_le t;omega
 go_enter Tryz.func118,Tryz.ntmps118
 go_wp2_with fail
 refine(Tryz.utf8_RuneCountInString t _ Oa).mono ?_;rintro e w' ⟨rfl,pos,rfl⟩;have h':=h.iter lg t pos;have k':=Kp.iter lg t pos;have lg':b < (w.iter t pos).heap.size:=Qg _ _ h'.wordsAt;have y1:B<=(w.iter t pos).heap.size:=Qd hB (by show _<=(w.alloc _).heap.size;simp);have k5:=ht.below k'.below h0;generalize w.iter t pos=W at*;have h1:=h'.wordsAt;have h5:=h'.start;have f1:=h'.thawed 1;have h8:=h'.own;have ag:some b≠v.ownBlock:=fun e=>by have:=(h8.lt b e.symm).1;have:=h.lt;omega
 by_cases k1:12 < Lib.runeCount t
 ·have hf:Hid (c.named t=c.fail 1 c.start):=if_pos k1;have k0:(12:Int) < (Lib.runeCount t:Int):=Oa
  go_wp2_with (go_at_call 122;refine(uZ B b c v _ _ _ h').mono ?_;rintro e w' ⟨rfl,k8,hk⟩)
  refine bodyPost_ret (results_none rfl _ _ _) rfl ?_;exact⟨rfl,⟨v,by rw[hf.out];exact k8⟩,k'.trans hk⟩
 ·have k0: ¬(12:Int) < (Lib.runeCount t:Int):=Oa
  cases hs:spB t.data.toList
  ·have hf:Hid (c.named t=c.push 1 0 t):=by unfold Hid Cut.named;rw[if_neg k1,hs];rfl
   go_wp2_with (first|(go_at_call 181;refine(oE _ _ k5).mono ?_;rintro e w' ⟨rfl,rfl⟩;rw[hs]))
   go_region_law
    (first
      |(refine step_append_lies _ (by rfl) _ _ _ (by rfl) B 143 i0 _ 4 40 Tryz.underlying85 k6 k4 k3 k2 rfl Oa v c.words.length (fJ c.words) (by rfl) (h7.alloc _)
         ⟨w2.heap.size,0,none⟩ 1 1 (Tok.cells ⟨1,c.start,t,0⟩) (by rfl) (by rfl) (World.news_of_block (cs:=#[.int .i64 1,.int .i64 c.start,.string t,.int .i64 0]) (t:=143) (fr:=(0,0)) (Qb w2 _)) (by simp[Tok.cells,Value.oneCell'])
         Oa (by unfold maxLen;omega) Oa (by simp;omega) (w2.heap.size+1) Od ?_;intro gg cap w1 h3 h4 k9 k7;have h2:=zI h4;have q1:=(h2.cell_far ⟨b,1,none⟩ (kO lg2) ag).trans (sS lg2 p1);have q2:=(h2.frozen_far ⟨b,1,none⟩ (kO lg2) ag).trans (xB lg2 p2))
      |(refine eC rfl 182 #[.string t] _ (by go_simp) (aL4 t _ Oa) ?_;rintro e w2 ⟨rfl,h9⟩;refine⟨_,rfl,?_⟩;have h6:=(h'.drewN 1).below h9;have y0:=(Kp.drewN b W 1).trans (Kp.of_below h9 lg');have p1:=h6.wordsAt;have p2:=h6.thawed 1;have p5:=h6.start;have h7:=h6.own;have lg2:b < w2.heap.size:=Nat.lt_of_lt_of_le lg' h9.size;have hB2:B<=w2.heap.size:=Qd y1 h9.size))
   all_goals go_wp2
   all_goals refine bodyPost_end (results_none rfl _ _ _) rfl ?_
   all_goals exact⟨rfl,by rw[hf.out];exact(eV.pushed h6 lg2 h3 h2).1,(k'.trans y0).trans (eV.pushed h6 lg2 h3 h2).2⟩
  ·have hf:Hid (c.named t=c.push (spK t.data.toList) 0 (ByteArray.mk #[])):=by unfold Hid Cut.named;rw[if_neg k1,hs];rfl
   go_wp2_with (first|(go_at_call 181;refine(oE _ _ k5).mono ?_;rintro e w' ⟨rfl,rfl⟩;rw[hs]))
   go_region_law
    ((refine step_append_lies _ (by rfl) _ _ _ (by rfl) B 143 i0 _ 4 40 Tryz.underlying85 k6 k4 k3 k2 rfl Oa v c.words.length (fJ c.words) (by rfl) ((h8.alloc _).drew)
       ⟨W.heap.size,0,none⟩ 1 1 (Tok.cells ⟨spK t.data.toList,c.start,ByteArray.mk #[],0⟩) (by rfl) (by rfl) (World.news_of_block (cs:=#[.int .i64 (spK t.data.toList),.int .i64 c.start,.string (ByteArray.mk #[]),.int .i64 0]) (t:=143) (fr:=(0,0)) (Qb W _)) (by simp[Tok.cells,Value.oneCell'])
       Oa (by unfold maxLen;omega) Oa (by simp;omega) (W.heap.size+1) Od ?_;intro gg cap w1 h3 h2 k9 k7;have q1:=(h2.cell_far ⟨b,1,none⟩ (kO lg') ag).trans (sS lg' h1);have q2:=(h2.frozen_far ⟨b,1,none⟩ (kO lg') ag).trans (xB lg' f1)))
   all_goals go_wp2
   all_goals refine bodyPost_ret (results_none rfl _ _ _) rfl ?_
   all_goals exact⟨rfl,by rw[hf.out];exact(eV.pushed h' lg' h3 h2).1,k'.trans (eV.pushed h' lg' h3 h2).2⟩
def Cut.finish(c:Cut)(e:Nat):Cut:=
 if c.mode=2 then c.named (c.text.extract c.start.toNat e)
 else if c.mode=3 then c.number (c.text.extract c.start.toNat e)
 else if c.mode=4 then c.sign (c.text.extract c.start.toNat e)
 else c
theorem zP(B b:Nat)(c:Cut)(v:Value)(e:Nat)(w:World)(h:eV B b c v w)(ht:Tab w)(h0:0 < b)(hB:B<=w.heap.size)(hn:c.words.length<=5000)(he:e<=c.text.size)(hz:c.text.size<=5000)(hs:0<=c.start/\c.start<=e)(hd:c.mode=3->wS (c.text.extract c.start.toNat e).data.toList):
 Calls Tryz.prog 69 #[.pointer (some ⟨b,0,none⟩),.int .i64 e] w fun x w'=>x= .returned (.tuple #[])/\
  (∃ v',eV B b (c.finish e) v' w')/\Kp b w w':=by
 have g0:=h.text;have h4:=h.mode;have h5:=h.start;obtain⟨st,h1⟩:∃ st:Nat,c.start=st:=⟨c.start.toNat,Oa⟩;rw[h1]at h5;have hse:st<=e:=Oa
 have h3:(c.text.extract st e).size<=5000:=by rw[ByteArray.size_extract];omega
 by_cases m2:c.mode=2
 ·have hf:Hid (c.finish e=c.named (c.text.extract st e)):=by unfold Hid Cut.finish;rw[if_pos m2,h1,Int.toNat_natCast]
  rw[m2]at h4;go_enter Tryz.func69,Tryz.ntmps69
  go_wp2;go_quiet (fail)
  go_wp2_with fail
  refine(zR B b c v _ _ (h.drewN _) (fun i hi=>ht i hi) h0 hB hn h3).mono ?_;rintro x w' ⟨rfl,h2,hk⟩;go_wp2;go_end0
  exact⟨rfl,by rw[hf.out];exact h2,(Kp.drewN b w _).trans hk⟩
 have n2:(c.mode==2)=false:=by simpa using m2
 by_cases m3:c.mode=3
 ·have hf:Hid (c.finish e=c.number (c.text.extract st e)):=by unfold Hid Cut.finish;rw[if_neg m2,if_pos m3,h1,Int.toNat_natCast]
  have h6:=hd m3;rw[h1,Int.toNat_natCast]at h6;rw[m3]at h4;go_enter Tryz.func69,Tryz.ntmps69
  go_wp2;go_quiet (fail)
  go_wp2_with fail
  refine(wI B b c v _ _ (h.drewN _) hB hn h6 h3).mono ?_;rintro x w' ⟨rfl,h2,hk⟩;go_wp2;go_end0
  exact⟨rfl,by rw[hf.out];exact h2,(Kp.drewN b w _).trans hk⟩
 have n3:(c.mode==3)=false:=by simpa using m3
 by_cases m4:c.mode=4
 ·have hf:Hid (c.finish e=c.sign (c.text.extract st e)):=by unfold Hid Cut.finish;rw[if_neg m2,if_neg m3,if_pos m4,h1,Int.toNat_natCast]
  rw[m4]at h4;go_enter Tryz.func69,Tryz.ntmps69
  go_wp2;go_quiet (fail)
  go_wp2_with fail
  refine(zQ B b c v _ _ (h.drewN _) (fun i hi=>ht i hi) hB hn).mono ?_;rintro x w' ⟨rfl,h2,hk⟩;go_wp2;go_end0
  exact⟨rfl,by rw[hf.out];exact h2,(Kp.drewN b w _).trans hk⟩
 ·have n4:(c.mode==4)=false:=by simpa using m4
  have hf:Hid (c.finish e=c):=by unfold Hid Cut.finish;rw[if_neg m2,if_neg m3,if_neg m4]
  go_enter Tryz.func69,Tryz.ntmps69
  go_wp2;go_quiet (fail)
  go_wp2;go_end0
  exact⟨rfl,⟨v,by rw[hf.out];exact h.drewN _⟩,Kp.drewN b w _⟩
def Cut.step(c:Cut)(p:Nat)(r:Int):Cut:=if c.goes p r then c else(c.finish p).begins p r
def Cut.run(c:Cut):Nat->Nat->Cut
 |0,_=>c
 |n+1,p=>
  if p < c.text.size then
   if(c.step p (Utf8.decode c.text p).1).code≠0 then c.step p (Utf8.decode c.text p).1
   else(c.step p (Utf8.decode c.text p).1).run n (p+(Utf8.decode c.text p).2)
  else c.finish p
def dN(s:ByteArray):Cut:=(⟨s,[],0,0,0,0⟩:Cut).run (s.size+1) 0
theorem zW(s:ByteArray)(p:Nat)(h:p < s.size):p+(Utf8.decode s p).2<=s.size:=by
 simp only[Utf8.decode]
 repeat' split
 all_goals simp_all
 all_goals omega
structure vL(c:Cut)(p:Nat):Prop where
 lo:0<=c.start
 hi:c.start<=p
 le:p<=c.text.size
 digits:c.mode=3->wS (c.text.extract c.start.toNat p).data.toList
 count:c.words.length<=c.start
 some_:c.mode≠0->c.start < p
theorem Cut.fail_text(c:Cut)(e p:Int):(c.fail e p).text=c.text/\(c.fail e p).words=c.words/\(c.fail e p).start=c.start/\(c.fail e p).mode=c.mode:=by
 unfold Cut.fail;split<;>simp
theorem Cut.finish_keeps(c:Cut)(p:Nat):(c.finish p).text=c.text/\(c.finish p).start=c.start/\(c.finish p).mode=c.mode/\((c.finish p).words.length=c.words.length\/(c.mode≠0/\(c.finish p).words.length=c.words.length+1)):=by
 unfold Cut.finish
 by_cases h2:c.mode=2
 ·rw[if_pos h2];unfold Cut.named Cut.push;have:=c.fail_text 1 c.start
  split
  ·simp[this]
  ·split<;>simp[h2]
 rw[if_neg h2]
 by_cases h3:c.mode=3
 ·rw[if_pos h3];unfold Cut.number Cut.push;have:=c.fail_text 3 c.start
  split<;>simp[this,h3]
 rw[if_neg h3]
 by_cases h4:c.mode=4
 ·rw[if_pos h4];unfold Cut.sign Cut.push;have:=c.fail_text 1 c.start
  split<;>simp[this,h4]
 rw[if_neg h4];simp
theorem Cut.begins_keeps(c:Cut)(p r:Int):(c.begins p r).text=c.text/\(c.begins p r).start=p/\(c.begins p r).words=c.words/\((c.begins p r).code=0->(c.begins p r).mode=3->kZ r=true):=by
 unfold Cut.begins
 by_cases h1:aA0 r=true
 ·rw[if_pos h1];simp
 rw[if_neg h1]
 by_cases h2:r=35
 ·rw[if_pos h2];simp
 rw[if_neg h2]
 by_cases h3:oK r=true
 ·rw[if_pos h3];simp
 rw[if_neg h3]
 by_cases h4:kZ r=true
 ·rw[if_pos h4];simp[h4]
 rw[if_neg h4]
 by_cases h5:bsB (Utf8.encode r).data.toList=true
 ·rw[if_pos h5];simp
 rw[if_neg h5];have:=({c with start:=p}:Cut).fail_text 1 p;have h0:(({c with start:=p}:Cut).fail 1 p).code≠0:=by unfold Cut.fail;split<;>simp_all
 simp[this,h0]
theorem aEY(s:ByteArray)(p:Nat)(h:p < s.size)(hd:kZ (Utf8.decode s p).1=true):(Utf8.decode s p).2=1/\48<=s[p].toNat/\s[p].toNat<=57:=by
 by_cases ha:s[p].toNat < 128
 ·rw[decode_ascii s p h ha]at hd ⊢;simp[kZ]at hd;exact⟨rfl,Oa,Oa⟩
 ·have:=(decode_high s p h Oa).1;simp[kZ]at hd;omega
theorem vB(s:ByteArray)(a p:Nat)(h:p < s.size)(ha:a<=p):(s.extract a (p+1)).data.toList=(s.extract a p).data.toList++[s[p]]:=by
 rw[Lib.extract_data,Lib.extract_data,show p+1 - a=(p - a)+1 from by omega,List.take_succ_eq_append_getElem (by simp;omega)]
 congr 1
 simp
 congr 1
 omega
theorem vL.step{c:Cut}{p:Nat}(h:vL c p)(hp:p < c.text.size)(hc:(c.step p (Utf8.decode c.text p).1).code=0):vL (c.step p (Utf8.decode c.text p).1) (p+(Utf8.decode c.text p).2)/\(c.step p (Utf8.decode c.text p).1).text=c.text:=by
 have hw:=Lib.decode_width_pos c.text p hp;have hl:=zW c.text p hp;have hlo:=h.lo;have hhi:=h.hi;unfold Cut.step
 by_cases hg:c.goes p (Utf8.decode c.text p).1=true
 ·rw[if_pos hg];refine⟨⟨h.lo,Oa,hl,fun m=>?_,h.count,fun m=>Oi (h.some_ m)⟩,rfl⟩
  have hd:kZ (Utf8.decode c.text p).1=true:=by
   unfold Cut.goes at hg;rw[Oh,Oh,if_pos m]at hg;exact hg
  obtain⟨h1,h2,h3⟩:=aEY c.text p hp hd;rw[h1,vB _ _ _ hp Oa];intro d hd;rcases List.mem_append.1 hd with hd|hd
  ·exact h.digits m d hd
  ·simp at hd;subst hd;exact⟨h2,h3⟩
 ·rw[if_neg hg];obtain⟨f1,f2,f3,f4⟩:=c.finish_keeps p;obtain⟨b1,b2,b3,b4⟩:=(c.finish p).begins_keeps p (Utf8.decode c.text p).1;refine⟨⟨by rw[b2];omega,by rw[b2];omega,by rw[b1,f1];exact hl,fun m=>?_,?_,fun _=>by rw[b2];omega⟩,b1.trans f1⟩
  ·unfold Cut.step at hc;rw[if_neg hg]at hc;obtain⟨h1,h2,h3⟩:=aEY c.text p hp (b4 hc m);rw[b2,Int.toNat_natCast,b1,f1,h1,vB _ _ _ hp Ol];intro d hd;rcases List.mem_append.1 hd with hd|hd
   ·rw[Lib.extract_data]at hd;simp at hd
   ·simp at hd;subst hd;exact⟨h2,h3⟩
  ·rw[b3,b2];have:=h.count;rcases f4 with f4|⟨m,f4⟩
   ·omega
   ·have:=h.some_ m;omega
theorem vL.start(s:ByteArray):vL ⟨s,[],0,0,0,0⟩ 0:=⟨Od,Od,Od,Od,Od,Od⟩
end Go.Proofs.YtikffmloeifkpaaGreatDoor
