/- Contracts. -/
import Derived.Test.YtikffmloeifkpaaGreatDoorR02
import Derived.Test.YtikffmloeifkpaaGreatDoorR03
import Derived.BigQuiet
import Derived.Deep.QuietTactic
set_option maxHeartbeats 2000000
set_option maxRecDepth 100000
namespace Go.Proofs.YtikffmloeifkpaaGreatDoor
open Go.RowKit Go.Lib Tryz
theorem Tab.below{b:Nat}{w w':World}(h:Tab w)(a:Below b w w')(h0:0 < b):Tab w':=fun i hi=>(a.cell (p:=⟨0,i,none⟩) h0).t (h i hi)
theorem gN.below{B b:Nat}{c:dI}{v:Value}{w w':World}(h:gN B b c v w)(a:Below w.1.size w w'):gN B b c v w':=by
 have j:b < w.1.size:=Qp w _ h.wordsAt;refine h.kept (a.block b j) ⟨h.own.1,?_⟩;rcases h.own.2 with k|⟨g,J,d,i,e,f,r⟩
 ·simp[*]
 ·exact Or.r ⟨g,J,d,i,e,(a.block g Qg).t f,r⟩
theorem Kp.of_below{b:Nat}{w w':World}(a:Below w.1.size w w')(h:b < w.1.size):Kp b w w':=
 ⟨a.mono Oa,fun k o c _ _=>(a.block k Qg).t c⟩
def lJ(s:ByteArray)(p:Nat)(r:Int):Bool:=decide (r=65533)&&!(Lib.hasPrefix (s.data.toList.drop p) [239,191,189])
theorem aGT(B b:Nat)(c:dI)(v:Value)(p:Nat)(r:Int)(w:World)(h:gN B b c v w)(g:p<=c.f.size)(_:c.f.size<=5000):
 Calls prog 114 #[Qd b,Qc p,.int .i32 r] w fun x d=>x= .returned (.bool (lJ c.f p r))/\w=d:=by
 have h0:=h.f
 by_cases a:r=65533
 ·subst a;go_enter func114,ntmps114
  go_wp2_with (go_at_call 179;refine(tK _ _ _).mono ?_;rintro e d ⟨rfl,rfl⟩)
  go_ret;refine⟨gG ?_,rfl⟩;rw[List.take_of_length_le Od];simp[lJ]
 ·have f:(r==65533)=false:=by simpa using a
  go_enter func114,ntmps114
  go_wp2;go_ret;exact⟨gG (by simp[lJ,a]),rfl⟩
theorem aJC(r:Int):(Utf8.encode r).size<=4:=by
 unfold Utf8.encode;dsimp only
 repeat' split
 all_goals simp[ByteArray.size]
theorem aTJ(s e:ByteArray)(a b:Nat):(s.extract a b++e).data.toList=(s.data.toList.take b).drop a++e.data.toList:=by
 rw[ByteArray.data_append,Array.toList_append,ByteArray.data_extract]
 congr 1
 simp[List.drop_take]
theorem gN.drewN{B b:Nat}{c:dI}{v:Value}{w:World}(h:gN B b c v w)(n:Nat):gN B b c v (w.drewN n):=h.kept rfl ⟨h.own.1,h.own.2⟩
theorem Kp.drewN(b:Nat)(w:World)(n:Nat):Kp b w (w.drewN n):=⟨⟨rfl,rfl,rfl,Ql _,Od⟩,fun _ _ h _ _=>h⟩
def dI.goes(c:dI)(p:Nat)(r:Int):Bool:=
 if c.mode=1 then r !=10&&!(lJ c.f p r)
 else if c.mode=2 then eQ r||eN r
 else if c.mode=3 then eN r
 else if c.mode=4 then wZ ((c.f.data.toList.take p).drop c.start.toNat++(Utf8.encode r).data.toList)
 else false
theorem aLB(B b:Nat)(c:dI)(v:Value)(p:Nat)(r:Int)(w:World)(h:gN B b c v w)(y:Tab w)(x:p<=c.f.size)(z:c.f.size<=5000)(F:0<=c.start/\c.start<=p):
 Calls prog 68 #[Qd b,Qc p,.int .i32 r] w fun D d=>D= .returned (.bool (c.goes p r))/\gN B b c v d/\Kp b w d:=by
 have h0:=h.f;have j:=h.mode;have t:=h.start
 by_cases f:c.mode=1
 ·have a:Hid (c.goes p r=(r !=10&&!(lJ c.f p r))):=if_pos f;rw[f]at j
  by_cases n:r=10
  ·subst n;go_enter func68,ntmps68
   go_wp2;go_ret;exact⟨gG (by rw[a.o];rfl),h,Kp.refl b w⟩
  ·have u:(r !=10)=true:=by simpa using n
   go_enter func68,ntmps68
   go_wp2_with (go_at_call 114;refine(aGT B b c v p r _ h x z).mono ?_;rintro e d ⟨rfl,rfl⟩)
   go_ret;exact⟨gG (by rw[a.o,u];rfl),h,Kp.refl b w⟩
 have H:(c.mode==1)=false:=by simpa using f
 by_cases g:c.mode=2
 ·have a:Hid (c.goes p r=(eQ r||eN r)):=by unfold Hid dI.goes;rw[if_neg f,if_pos g]
  rw[g]at j;cases hl:eQ r
  ·go_enter func68,ntmps68
   go_wp2_with (first|(go_at_call 115;refine(mG r _).mono ?_;rintro e d ⟨rfl,rfl⟩;rw[hl])|(go_at_call 116;refine(nM r _).mono ?_;rintro e d ⟨rfl,rfl⟩))
   go_ret;exact⟨gG (by rw[a.o,hl];rfl),h,Kp.refl b w⟩
  ·go_enter func68,ntmps68
   go_wp2_with (first|(go_at_call 115;refine(mG r _).mono ?_;rintro e d ⟨rfl,rfl⟩;rw[hl])|(go_at_call 116;refine(nM r _).mono ?_;rintro e d ⟨rfl,rfl⟩))
   go_ret;exact⟨gG (by rw[a.o,hl];rfl),h,Kp.refl b w⟩
 have I:(c.mode==2)=false:=by simpa using g
 by_cases i:c.mode=3
 ·have a:Hid (c.goes p r=eN r):=by unfold Hid dI.goes;rw[if_neg f,if_neg g,if_pos i]
  rw[i]at j;go_enter func68,ntmps68
  go_wp2_with (first|(go_at_call 116;refine(nM r _).mono ?_;rintro e d ⟨rfl,rfl⟩))
  go_ret;exact⟨gG (by rw[a.o]),h,Kp.refl b w⟩
 have J:(c.mode==3)=false:=by simpa using i
 by_cases k:c.mode=4
 ·have a:Hid (c.goes p r=wZ ((c.f.data.toList.take p).drop c.start.toNat++(Utf8.encode r).data.toList)):=by unfold Hid dI.goes;rw[if_neg f,if_neg g,if_neg i,if_pos k]
  rw[k]at j;obtain⟨st,l⟩:∃ st:Nat,c.start=st:=⟨c.start.toNat,Oa⟩;rw[l]at t;have G:st<=p:=Oa
  have q:(c.f.extract st p).size+(Utf8.encode r).size<=9223372036854775807:=by
   have:=aJC r;rw[ByteArray.size_extract];omega
  have s:∀ o,Tab (w.drewN o):=fun o A hi=>y A hi;have E:=fun C=>run_string_add_sum (P:=prog) C (c.f.extract st p) (Utf8.encode r) q;go_enter func68,ntmps68
  go_wp2;go_quiet ((go_at_call 117;exact Calls.quiet_of_same ((rW _ _ (s _)).mono fun _ _ m=>⟨m.1,m.2.symm⟩)))
  go_wp2;go_ret;exact⟨gG (by rw[a.o,l,Int.toNat_natCast,<-aTJ]),h.drewN nq,Kp.drewN b w nq⟩
 ·have K:(c.mode==4)=false:=by simpa using k
  have a:Hid (c.goes p r=false):=by unfold Hid dI.goes;rw[if_neg f,if_neg g,if_neg i,if_neg k]
  go_enter func68,ntmps68
  go_wp2;go_ret;exact⟨gG (by rw[a.o]),h,Kp.refl b w⟩
def dI.m0(c:dI)(p r:Int):dI:=
 if rV r then {c with start:=p,mode:=0}
 else if r=35 then {c with start:=p,mode:=1}
 else if eQ r then {c with start:=p,mode:=2}
 else if eN r then {c with start:=p,mode:=3}
 else if wZ (Utf8.encode r).data.toList then {c with start:=p,mode:=4}
 else({c with start:=p}:dI).fail 1 p
theorem aPZ(B b:Nat)(c:dI)(v:Value)(p r:Int)(w:World)(h:gN B b c v w)(k:Tab w)(h0:0 < b):
 Calls prog 70 #[Qd b,Qc p,.int .i32 r] w fun x a=>x= .returned (.tuple #[])/\gN B b (c.m0 p r) v a/\Kp b w a:=by
 have q:=h.mode;have t:=h.start;have m:=h.thawed 4;have o:=h.thawed 5;have d:=h.setStart p;have Y:=(Kp.refl b w).set 5 (Qc p);have g:=k.below Y.below h0;have s:=d.mode;have n:=d.thawed 4;cases e1:rV r
 ·by_cases f:r=35
  ·subst f;go_enter func70,ntmps70
   go_wp2_with (first|(go_at_call 121;refine(nO _ _).mono ?_;rintro e a ⟨rfl,rfl⟩;rw[e1]))
   go_end0
   exact⟨rfl,by unfold dI.m0;rw[e1,if_neg Od,if_pos rfl];exact d.setMode 1,Y.set 4 _⟩
  ·have l:(r==35)=false:=by simpa using f
   cases e3:eQ r
   ·cases e4:eN r
    ·cases e5:wZ (Utf8.encode r).data.toList
     ·go_enter func70,ntmps70
      go_wp2_with (first|(go_at_call 121;refine(nO _ _).mono ?_;rintro e a ⟨rfl,rfl⟩;rw[e1])|(go_at_call 115;refine(mG _ _).mono ?_;rintro e a ⟨rfl,rfl⟩;rw[e3])|(go_at_call 116;refine(nM _ _).mono ?_;rintro e a ⟨rfl,rfl⟩;rw[e4])|(go_at_call 117;refine(rW _ _ g).mono ?_;rintro e a ⟨rfl,rfl⟩;rw[e5])|(go_at_call 122;refine(aAB B b _ v _ _ _ d).mono ?_;rintro e a ⟨rfl,i,j⟩))
      go_end0
      exact⟨rfl,by unfold dI.m0;rw[e1,e3,e4,e5,if_neg Od,if_neg f];exact i,Y.t j⟩
     ·go_enter func70,ntmps70
      go_wp2_with (first|(go_at_call 121;refine(nO _ _).mono ?_;rintro e a ⟨rfl,rfl⟩;rw[e1])|(go_at_call 115;refine(mG _ _).mono ?_;rintro e a ⟨rfl,rfl⟩;rw[e3])|(go_at_call 116;refine(nM _ _).mono ?_;rintro e a ⟨rfl,rfl⟩;rw[e4])|(go_at_call 117;refine(rW _ _ g).mono ?_;rintro e a ⟨rfl,rfl⟩;rw[e5]))
      go_end0
      exact⟨rfl,by unfold dI.m0;rw[e1,e3,e4,e5,if_neg Od,if_neg f];exact d.setMode 4,Y.set 4 _⟩
    ·go_enter func70,ntmps70
     go_wp2_with (first|(go_at_call 121;refine(nO _ _).mono ?_;rintro e a ⟨rfl,rfl⟩;rw[e1])|(go_at_call 115;refine(mG _ _).mono ?_;rintro e a ⟨rfl,rfl⟩;rw[e3])|(go_at_call 116;refine(nM _ _).mono ?_;rintro e a ⟨rfl,rfl⟩;rw[e4]))
     go_end0
     exact⟨rfl,by unfold dI.m0;rw[e1,e3,e4,if_neg Od,if_neg f];exact d.setMode 3,Y.set 4 _⟩
   ·go_enter func70,ntmps70
    go_wp2_with (first|(go_at_call 121;refine(nO _ _).mono ?_;rintro e a ⟨rfl,rfl⟩;rw[e1])|(go_at_call 115;refine(mG _ _).mono ?_;rintro e a ⟨rfl,rfl⟩;rw[e3]))
    go_end0
    exact⟨rfl,by unfold dI.m0;rw[e1,e3,if_neg Od,if_neg f];exact d.setMode 2,Y.set 4 _⟩
 ·go_enter func70,ntmps70
  go_wp2_with (first|(go_at_call 121;refine(nO _ _).mono ?_;rintro e a ⟨rfl,rfl⟩;rw[e1]))
  go_end0
  exact⟨rfl,by unfold dI.m0;rw[e1,if_pos rfl];exact d.setMode 0,Y.set 4 _⟩
def dI.named(c:dI)(t:ByteArray):dI:=
 if 12 < Lib.runeCount t then c.fail 1 c.start else if xW t.data.toList then c.push (zU t.data.toList) 0 (ByteArray.mk #[])else c.push 1 0 t
theorem aQ8(s:ByteArray)(w:World)(h0:s.size<=281474976710656):
 Calls prog 182 #[.string s] w fun e a=>e= .returned (.string s)/\Below w.1.size w a:=by
 go_enter func182,ntmps182
 go_wp2_with (go_at_call 240;refine(stringslite_Clone s _ h0).mono ?_;rintro e a ⟨rfl,b⟩)
 go_ret;exact⟨rfl,b⟩
theorem mE{P:Program}{Z:Array Oper}{o:Oper}{a:Act}{w:World}{K:Act->World->Prop}{Q:Exit->Act->World->Prop}{E:Prop}(c:o.guard=none)(f:FuncId)(args:Array Value)(R:Ending->World->Prop)(h0:(execOp a.eval o).run P w= .ok (.enter f args) w)(d:Calls P f args w R)(h:∀ e b,R e b->∃ v,e= .returned v/\K (a.put o.dst v) b):
 if Region.wanted o (yielded Z a.tmps)=true then Oper.wp P o a w K Q else E:=by
 have g:Region.wanted o (yielded Z a.tmps)=true:=by simp[Region.wanted,c]
 rw[if_pos g];unfold Oper.wp;rw[h0,Oper.upon_enter];refine d.mono ?_
 grind
theorem aDG{w w':World}{r:Option Nat}(h:w.grownBy w' r):w.drew.grownBy w' r:=⟨h.os,h.tape,h.output,h.size,h.block⟩
theorem aDP(B b:Nat)(c:dI)(v:Value)(t:ByteArray)(w:World)(h:gN B b c v w)(I:Tab w)(h0:0 < b)(G:B<=w.1.size)(Y:c.words.length<=5000)(hz:t.size<=5000):
 Calls prog 118 #[Qd b,.string t] w fun T j=>T= .returned (.tuple #[])/\
  (∃ R,gN B b (c.named t) R j)/\Kp b w j:=by
 have A:b < w.1.size:=Qp w _ h.wordsAt;obtain⟨i0,z,x,u,s⟩:=info_parts info143;have Z:(Lib.runeCount t:Int)<=5000:=by have:=Lib.runeCount_le t;omega
 go_enter func118,ntmps118
 go_wp2_with fail
 refine(utf8_RuneCountInString t _ Oa).mono ?_;rintro e j ⟨rfl,pos,rfl⟩;have a:=h.iter A t pos;have p:=Kp.iter A t pos;have f:b < (w.iter t pos).1.size:=Qp _ _ a.wordsAt;have U:B<=(w.iter t pos).1.size:=Qm G (by show _<=(w.alloc _).1.size;simp);have y:=I.below p.below h0;generalize w.iter t pos=W at*;have D:=a.wordsAt;have V:=a.start;have f1:=a.thawed 1;have r:=a.own;have n:some b≠v.ownBlock:=fun e=>by have:=(r.lt b e.symm).1;have:=h.lt;omega
 by_cases q:12 < Lib.runeCount t
 ·have l:Hid (c.named t=c.fail 1 c.start):=if_pos q;have k0:(12:Int) < (Lib.runeCount t:Int):=Oa
  go_wp2_with (go_at_call 122;refine(aAB B b c v _ _ _ a).mono ?_;rintro e j ⟨rfl,L,H⟩)
  refine bodyPost_ret (results_none rfl _ _ _) rfl ?_;exact⟨rfl,⟨v,by rw[l.o];exact L⟩,p.t H⟩
 ·have k0: ¬(12:Int) < (Lib.runeCount t:Int):=Oa
  cases hs:xW t.data.toList
  ·have l:Hid (c.named t=c.push 1 0 t):=by unfold Hid dI.named;rw[if_neg q,hs];rfl
   go_wp2_with (first|(go_at_call 181;refine(sN _ _ y).mono ?_;rintro e j ⟨rfl,rfl⟩;rw[hs]))
   go_region_law
    (first
      |(refine step_append_lies _ (by rfl) _ _ _ (by rfl) B 143 i0 _ 4 40 underlying85 z x u s rfl Oa v c.words.length (dD c.words) (by rfl) (F.alloc _)
         ⟨m.1.size,0,none⟩ 1 1 (aU.cells ⟨1,c.start,t,0⟩) (by rfl) (by rfl) (World.news_of_block (cs:=#[Qc 1,Qc c.start,.string t,Qc 0]) (t:=143) (fr:=(0,0)) (Qk m _)) (by simp[aU.cells,Value.oneCell'])
         Oa (by unfold maxLen;omega) Oa (by simp;omega) (m.1.size+1) Od ?_;intro C J S k E M K;have d:=aDG E;have P:=(d.cell_far ⟨b,1,none⟩ (gK i) n).t (lT i N);have Q:=(d.frozen_far ⟨b,1,none⟩ (gK i) n).t (rO i O))
      |(refine mE rfl 182 #[.string t] _ (by go_simp) (aQ8 t _ Oa) ?_;rintro e m ⟨rfl,o⟩;refine⟨_,rfl,?_⟩;have g:=(a.drewN 1).below o;have y0:=(Kp.drewN b W 1).t (Kp.of_below o f);have N:=g.wordsAt;have O:=g.thawed 1;have p5:=g.start;have F:=g.own;have i:b < m.1.size:=Nat.lt_of_lt_of_le f o.size;have X:B<=m.1.size:=Qm U o.size))
   all_goals go_wp2
   all_goals refine bodyPost_end (results_none rfl _ _ _) rfl ?_
   all_goals exact⟨rfl,by rw[l.o];exact(gN.pushed g i k d).1,(p.t y0).t (gN.pushed g i k d).2⟩
  ·have l:Hid (c.named t=c.push (zU t.data.toList) 0 (ByteArray.mk #[])):=by unfold Hid dI.named;rw[if_neg q,hs];rfl
   go_wp2_with (first|(go_at_call 181;refine(sN _ _ y).mono ?_;rintro e j ⟨rfl,rfl⟩;rw[hs]))
   go_region_law
    ((refine step_append_lies _ (by rfl) _ _ _ (by rfl) B 143 i0 _ 4 40 underlying85 z x u s rfl Oa v c.words.length (dD c.words) (by rfl) ((r.alloc _).drew)
       ⟨W.1.size,0,none⟩ 1 1 (aU.cells ⟨zU t.data.toList,c.start,ByteArray.mk #[],0⟩) (by rfl) (by rfl) (World.news_of_block (cs:=#[Qc (zU t.data.toList),Qc c.start,.string (ByteArray.mk #[]),Qc 0]) (t:=143) (fr:=(0,0)) (Qk W _)) (by simp[aU.cells,Value.oneCell'])
       Oa (by unfold maxLen;omega) Oa (by simp;omega) (W.1.size+1) Od ?_;intro C J S k d M K;have P:=(d.cell_far ⟨b,1,none⟩ (gK f) n).t (lT f D);have Q:=(d.frozen_far ⟨b,1,none⟩ (gK f) n).t (rO f f1)))
   all_goals go_wp2
   all_goals refine bodyPost_ret (results_none rfl _ _ _) rfl ?_
   all_goals exact⟨rfl,by rw[l.o];exact(gN.pushed a f k d).1,p.t (gN.pushed a f k d).2⟩
def dI.d0(c:dI)(e:Nat):dI:=
 if c.mode=2 then c.named (c.f.extract c.start.toNat e)
 else if c.mode=3 then c.number (c.f.extract c.start.toNat e)
 else if c.mode=4 then c.sign (c.f.extract c.start.toNat e)
 else c
theorem aDN(B b:Nat)(c:dI)(v:Value)(e:Nat)(w:World)(h:gN B b c v w)(s:Tab w)(h0:0 < b)(n:B<=w.1.size)(o:c.words.length<=5000)(z:e<=c.f.size)(D:c.f.size<=5000)(A:0<=c.start/\c.start<=e)(u:c.mode=3->aB7 (c.f.extract c.start.toNat e).data.toList):
 Calls prog 69 #[Qd b,Qc e] w fun x k=>x= .returned (.tuple #[])/\
  (∃ y,gN B b (c.d0 e) y k)/\Kp b w k:=by
 have g0:=h.f;have m:=h.mode;have t:=h.start;obtain⟨st,g⟩:∃ st:Nat,c.start=st:=⟨c.start.toNat,Oa⟩;rw[g]at t;have C:st<=e:=Oa
 have q:(c.f.extract st e).size<=5000:=by rw[ByteArray.size_extract];omega
 by_cases d:c.mode=2
 ·have a:Hid (c.d0 e=c.named (c.f.extract st e)):=by unfold Hid dI.d0;rw[if_pos d,g,Int.toNat_natCast]
  rw[d]at m;go_enter func69,ntmps69
  go_wp2;go_quiet (fail)
  go_wp2_with fail
  refine(aDP B b c v _ _ (h.drewN _) (fun p hi=>s p hi) h0 n o q).mono ?_;rintro x k ⟨rfl,i,j⟩;go_wp2;go_end0
  exact⟨rfl,by rw[a.o];exact i,(Kp.drewN b w _).t j⟩
 have E:(c.mode==2)=false:=by simpa using d
 by_cases f:c.mode=3
 ·have a:Hid (c.d0 e=c.number (c.f.extract st e)):=by unfold Hid dI.d0;rw[if_neg d,if_pos f,g,Int.toNat_natCast]
  have r:=u f;rw[g,Int.toNat_natCast]at r;rw[f]at m;go_enter func69,ntmps69
  go_wp2;go_quiet (fail)
  go_wp2_with fail
  refine(aB2 B b c v _ _ (h.drewN _) n o r q).mono ?_;rintro x k ⟨rfl,i,j⟩;go_wp2;go_end0
  exact⟨rfl,by rw[a.o];exact i,(Kp.drewN b w _).t j⟩
 have F:(c.mode==3)=false:=by simpa using f
 by_cases l:c.mode=4
 ·have a:Hid (c.d0 e=c.sign (c.f.extract st e)):=by unfold Hid dI.d0;rw[if_neg d,if_neg f,if_pos l,g,Int.toNat_natCast]
  rw[l]at m;go_enter func69,ntmps69
  go_wp2;go_quiet (fail)
  go_wp2_with fail
  refine(aDO B b c v _ _ (h.drewN _) (fun p hi=>s p hi) n o).mono ?_;rintro x k ⟨rfl,i,j⟩;go_wp2;go_end0
  exact⟨rfl,by rw[a.o];exact i,(Kp.drewN b w _).t j⟩
 ·have G:(c.mode==4)=false:=by simpa using l
  have a:Hid (c.d0 e=c):=by unfold Hid dI.d0;rw[if_neg d,if_neg f,if_neg l]
  go_enter func69,ntmps69
  go_wp2;go_quiet (fail)
  go_wp2;go_end0
  exact⟨rfl,⟨v,by rw[a.o];exact h.drewN _⟩,Kp.drewN b w _⟩
def dI.step(c:dI)(p:Nat)(r:Int):dI:=if c.goes p r then c else(c.d0 p).m0 p r
def dI.run(c:dI):Nat->Nat->dI
 |0,_=>c
 |n+1,p=>
  if p < c.f.size then
   if(c.step p (Utf8.decode c.f p).1).a≠0 then c.step p (Utf8.decode c.f p).1
   else(c.step p (Utf8.decode c.f p).1).run n (p+(Utf8.decode c.f p).2)
  else c.d0 p
def eI(s:ByteArray):dI:=(⟨s,[],0,0,0,0⟩:dI).run (s.size+1) 0
theorem lW(s:ByteArray)(p:Nat)(h:p < s.size):p+(Utf8.decode s p).2<=s.size:=by
 grind[Utf8.decode]
structure aAO(c:dI)(p:Nat):Prop where
 lo:0<=c.start
 hi:c.start<=p
 le:p<=c.f.size
 digits:c.mode=3->aB7 (c.f.extract c.start.toNat p).data.toList
 count:c.words.length<=c.start
 some_:c.mode≠0->c.start < p
theorem dI.fail_text(c:dI)(e p:Int):(c.fail e p).f=c.f/\(c.fail e p).words=c.words/\(c.fail e p).start=c.start/\(c.fail e p).mode=c.mode:=by
 grind[dI.fail]
theorem dI.z0(c:dI)(p:Nat):(c.d0 p).f=c.f/\(c.d0 p).start=c.start/\(c.d0 p).mode=c.mode/\((c.d0 p).words.length=c.words.length\/(c.mode≠0/\(c.d0 p).words.length=c.words.length+1)):=by
 unfold dI.d0
 by_cases a:c.mode=2
 ·rw[if_pos a];unfold dI.named dI.push;have:=c.fail_text 1 c.start
  grind
 rw[if_neg a]
 by_cases b:c.mode=3
 ·rw[if_pos b];unfold dI.number dI.push;have:=c.fail_text 3 c.start
  grind
 rw[if_neg b]
 by_cases d:c.mode=4
 ·rw[if_pos d];unfold dI.sign dI.push;have:=c.fail_text 1 c.start
  grind
 simp[*]
theorem dI.begins_keeps(c:dI)(p r:Int):(c.m0 p r).f=c.f/\(c.m0 p r).start=p/\(c.m0 p r).words=c.words/\((c.m0 p r).a=0->(c.m0 p r).mode=3->eN r=true):=by
 unfold dI.m0
 by_cases a:rV r=true
 ·simp[*]
 rw[if_neg a]
 by_cases b:r=35
 ·simp[*]
 rw[if_neg b]
 by_cases d:eQ r=true
 ·simp[*]
 rw[if_neg d]
 by_cases e:eN r=true
 ·simp[*]
 rw[if_neg e]
 by_cases f:wZ (Utf8.encode r).data.toList=true
 ·simp[*]
 rw[if_neg f];have:=({c with start:=p}:dI).fail_text 1 p;have g:(({c with start:=p}:dI).fail 1 p).a≠0:=by grind[dI.fail]
 simp[*]
theorem aDT(s:ByteArray)(p:Nat)(h:p < s.size)(a:eN (Utf8.decode s p).1=true):(Utf8.decode s p).2=1/\48<=s[p].toNat/\s[p].toNat<=57:=by
 grind[eN,decode_ascii,decode_high]
theorem uX(s:ByteArray)(a p:Nat)(h:p < s.size)(b:a<=p):(s.extract a (p+1)).data.toList=(s.extract a p).data.toList++[s[p]]:=by
 rw[Lib.extract_data,Lib.extract_data,show p+1 - a=(p - a)+1 from by omega,List.take_succ_eq_append_getElem (by simp;omega)]
 congr 1
 simp
 congr 1
 omega
theorem aAO.step{c:dI}{p:Nat}(h:aAO c p)(b:p < c.f.size)(g:(c.step p (Utf8.decode c.f p).1).a=0):aAO (c.step p (Utf8.decode c.f p).1) (p+(Utf8.decode c.f p).2)/\(c.step p (Utf8.decode c.f p).1).f=c.f:=by
 have u:=Lib.decode_width_pos c.f p b;have q:=lW c.f p b;have t:=h.lo;have s:=h.hi;unfold dI.step
 by_cases i:c.goes p (Utf8.decode c.f p).1=true
 ·rw[if_pos i];refine⟨⟨h.lo,Oa,q,fun m=>?_,h.count,Oa⟩,rfl⟩
  have a:eN (Utf8.decode c.f p).1=true:=by
   grind[dI.goes]
  obtain⟨f,n,o⟩:=aDT c.f p b a;rw[f,uX _ _ _ b Oa];intro d a;rcases List.mem_append.1 a with a|a
  ·exact h.digits m d a
  grind
 ·rw[if_neg i];obtain⟨f1,r,f3,e⟩:=c.z0 p;obtain⟨b1,j,k,l⟩:=(c.d0 p).begins_keeps p (Utf8.decode c.f p).1;refine⟨⟨Oa,Oa,Qh,fun m=>?_,?_,Oa⟩,Qh⟩
  ·unfold dI.step at g;rw[if_neg i]at g;obtain⟨f,n,o⟩:=aDT c.f p b (l g m);rw[j,Int.toNat_natCast,b1,f1,f,uX _ _ _ b Oa];intro d a
   grind[Lib.extract_data]
  ·rw[k,j];have:=h.count;rcases e with e|⟨m,e⟩
   ·omega
   ·have:=h.some_ m;omega
theorem aAO.start(s:ByteArray):aAO ⟨s,[],0,0,0,0⟩ 0:=⟨Od,Od,Od,Od,Od,Od⟩
end Go.Proofs.YtikffmloeifkpaaGreatDoor
