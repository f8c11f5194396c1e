/- Contracts. -/
import Derived.Test.YtikffmloeifkpaaGreatDoorR02
import Derived.Test.YtikffmloeifkpaaGreatDoorR03
import Derived.BigQuiet
import Derived.Deep.QuietTactic
set_option maxHeartbeats 2000000
set_option maxRecDepth 100000
namespace Go.Proofs.YtikffmloeifkpaaGreatDoor
open Go.RowKit Go.Lib Tryz
theorem Tab.below{b:Nat}{w w':World}(h:Tab w)(c:Below b w w')(a:0 < b):Tab w':=fun i hi=>(c.cell (p:=⟨0,i,none⟩) a).t (h i hi)
theorem eV.below{B b:Nat}{c:Cut}{v:Value}{w w':World}(h:eV B b c v w)(a:Below w.1.size w w'):eV B b c v w':=by
 have j:b < w.1.size:=Qp w _ h.wordsAt;refine h.kept (a.block b j) ⟨h.own.1,?_⟩;rcases h.own.2 with k|⟨g,J,d,i,e,f,r⟩
 ·simp[*]
 ·exact Or.r ⟨g,J,d,i,e,(a.block g Qg).t f,r⟩
theorem Kp.of_below{b:Nat}{w w':World}(a:Below w.1.size w w')(h:b < w.1.size):Kp b w w':=
 ⟨a.mono Oa,fun k o c _ _=>(a.block k Qg).t c⟩
def vH(s:ByteArray)(p:Nat)(r:Int):Bool:=decide (r=65533)&&!(Lib.hasPrefix (s.data.toList.drop p) [239,191,189])
theorem aC7(B b:Nat)(c:Cut)(v:Value)(p:Nat)(r:Int)(w:World)(h:eV B b c v w)(i:p<=c.f.size)(_:c.f.size<=5000):
 Calls prog 114 #[Qd b,Qc p,.int .i32 r] w fun x d=>x= .returned (.bool (vH c.f p r))/\w=d:=by
 have f:=h.f
 by_cases a:r=65533
 ·subst a;go_enter func114,ntmps114
  go_wp2_with (go_at_call 179;refine(bCT _ _ _).mono ?_;rintro e d ⟨rfl,rfl⟩)
  go_ret;refine⟨bX ?_,rfl⟩;rw[List.take_of_length_le Od];simp[vH]
 ·have g:(r==65533)=false:=by simpa using a
  go_enter func114,ntmps114
  go_wp2;go_ret;exact⟨bX (by simp[vH,a]),rfl⟩
theorem aEV(r:Int):(Utf8.encode r).size<=4:=by
 unfold Utf8.encode;dsimp only
 repeat' split
 all_goals simp[ByteArray.size]
theorem aOD(s e:ByteArray)(a b:Nat):(s.extract a b++e).data.toList=(s.data.toList.take b).drop a++e.data.toList:=by
 rw[ByteArray.data_append,Array.toList_append,ByteArray.data_extract]
 congr 1
 simp[List.drop_take]
theorem eV.drewN{B b:Nat}{c:Cut}{v:Value}{w:World}(h:eV B b c v w)(n:Nat):eV B b c v (w.drewN n):=h.kept rfl ⟨h.own.1,h.own.2⟩
theorem Kp.drewN(b:Nat)(w:World)(n:Nat):Kp b w (w.drewN n):=⟨⟨rfl,rfl,rfl,Ql _,Od⟩,fun _ _ h _ _=>h⟩
def Cut.goes(c:Cut)(p:Nat)(r:Int):Bool:=
 if c.mode=1 then r !=10&&!(vH c.f p r)
 else if c.mode=2 then oK r||kZ r
 else if c.mode=3 then kZ r
 else if c.mode=4 then bsB ((c.f.data.toList.take p).drop c.start.toNat++(Utf8.encode r).data.toList)
 else false
theorem aGB(B b:Nat)(c:Cut)(v:Value)(p:Nat)(r:Int)(w:World)(h:eV B b c v w)(y:Tab w)(x:p<=c.f.size)(z:c.f.size<=5000)(G:0<=c.start/\c.start<=p):
 Calls prog 68 #[Qd b,Qc p,.int .i32 r] w fun D d=>D= .returned (.bool (c.goes p r))/\eV B b c v d/\Kp b w d:=by
 have E:=h.f;have j:=h.mode;have t:=h.start
 by_cases f:c.mode=1
 ·have a:Hid (c.goes p r=(r !=10&&!(vH c.f p r))):=if_pos f;rw[f]at j
  by_cases n:r=10
  ·subst n;go_enter func68,ntmps68
   go_wp2;go_ret;exact⟨bX (by rw[a.o];rfl),h,Kp.refl b w⟩
  ·have u:(r !=10)=true:=by simpa using n
   go_enter func68,ntmps68
   go_wp2_with (go_at_call 114;refine(aC7 B b c v p r _ h x z).mono ?_;rintro e d ⟨rfl,rfl⟩)
   go_ret;exact⟨bX (by rw[a.o,u];rfl),h,Kp.refl b w⟩
 have I:(c.mode==1)=false:=by simpa using f
 by_cases g:c.mode=2
 ·have a:Hid (c.goes p r=(oK r||kZ r)):=by unfold Hid Cut.goes;rw[if_neg f,if_pos g]
  rw[g]at j;cases hl:oK r
  ·go_enter func68,ntmps68
   go_wp2_with (first|(go_at_call 115;refine(jN r _).mono ?_;rintro e d ⟨rfl,rfl⟩;rw[hl])|(go_at_call 116;refine(kP r _).mono ?_;rintro e d ⟨rfl,rfl⟩))
   go_ret;exact⟨bX (by rw[a.o,hl];rfl),h,Kp.refl b w⟩
  ·go_enter func68,ntmps68
   go_wp2_with (first|(go_at_call 115;refine(jN r _).mono ?_;rintro e d ⟨rfl,rfl⟩;rw[hl])|(go_at_call 116;refine(kP r _).mono ?_;rintro e d ⟨rfl,rfl⟩))
   go_ret;exact⟨bX (by rw[a.o,hl];rfl),h,Kp.refl b w⟩
 have J:(c.mode==2)=false:=by simpa using g
 by_cases i:c.mode=3
 ·have a:Hid (c.goes p r=kZ r):=by unfold Hid Cut.goes;rw[if_neg f,if_neg g,if_pos i]
  rw[i]at j;go_enter func68,ntmps68
  go_wp2_with (first|(go_at_call 116;refine(kP r _).mono ?_;rintro e d ⟨rfl,rfl⟩))
  go_ret;exact⟨bX (by rw[a.o]),h,Kp.refl b w⟩
 have K:(c.mode==3)=false:=by simpa using i
 by_cases k:c.mode=4
 ·have a:Hid (c.goes p r=bsB ((c.f.data.toList.take p).drop c.start.toNat++(Utf8.encode r).data.toList)):=by unfold Hid Cut.goes;rw[if_neg f,if_neg g,if_neg i,if_pos k]
  rw[k]at j;obtain⟨st,l⟩:∃ st:Nat,c.start=st:=⟨c.start.toNat,Oa⟩;rw[l]at t;have H:st<=p:=Oa
  have q:(c.f.extract st p).size+(Utf8.encode r).size<=9223372036854775807:=by
   have:=aEV r;rw[ByteArray.size_extract];omega
  have s:∀ o,Tab (w.drewN o):=fun o A hi=>y A hi;have F:=fun C=>run_string_add_sum (P:=prog) C (c.f.extract st p) (Utf8.encode r) q;go_enter func68,ntmps68
  go_wp2;go_quiet ((go_at_call 117;exact Calls.quiet_of_same ((nV _ _ (s _)).mono fun _ _ m=>⟨m.1,m.2.symm⟩)))
  go_wp2;go_ret;exact⟨bX (by rw[a.o,l,Int.toNat_natCast,<-aOD]),h.drewN nq,Kp.drewN b w nq⟩
 ·have L:(c.mode==4)=false:=by simpa using k
  have a:Hid (c.goes p r=false):=by unfold Hid Cut.goes;rw[if_neg f,if_neg g,if_neg i,if_neg k]
  go_enter func68,ntmps68
  go_wp2;go_ret;exact⟨bX (by rw[a.o]),h,Kp.refl b w⟩
def Cut.N(c:Cut)(p r:Int):Cut:=
 if aA0 r then {c with start:=p,mode:=0}
 else if r=35 then {c with start:=p,mode:=1}
 else if oK r then {c with start:=p,mode:=2}
 else if kZ r then {c with start:=p,mode:=3}
 else if bsB (Utf8.encode r).data.toList then {c with start:=p,mode:=4}
 else({c with start:=p}:Cut).fail 1 p
theorem aKX(B b:Nat)(c:Cut)(v:Value)(p r:Int)(w:World)(h:eV B b c v w)(l:Tab w)(i:0 < b):
 Calls prog 70 #[Qd b,Qc p,.int .i32 r] w fun x a=>x= .returned (.tuple #[])/\eV B b (c.N p r) v a/\Kp b w a:=by
 have s:=h.mode;have u:=h.start;have n:=h.thawed 4;have q:=h.thawed 5;have d:=h.setStart p;have O:=(Kp.refl b w).set 5 (Qc p);have g:=l.below O.below i;have t:=d.mode;have o:=d.thawed 4;cases e1:aA0 r
 ·by_cases f:r=35
  ·subst f;go_enter func70,ntmps70
   go_wp2_with (first|(go_at_call 121;refine(kQ _ _).mono ?_;rintro e a ⟨rfl,rfl⟩;rw[e1]))
   go_end0
   exact⟨rfl,by unfold Cut.N;rw[e1,if_neg Od,if_pos rfl];exact d.setMode 1,O.set 4 _⟩
  ·have m:(r==35)=false:=by simpa using f
   cases e3:oK r
   ·cases e4:kZ r
    ·cases e5:bsB (Utf8.encode r).data.toList
     ·go_enter func70,ntmps70
      go_wp2_with (first|(go_at_call 121;refine(kQ _ _).mono ?_;rintro e a ⟨rfl,rfl⟩;rw[e1])|(go_at_call 115;refine(jN _ _).mono ?_;rintro e a ⟨rfl,rfl⟩;rw[e3])|(go_at_call 116;refine(kP _ _).mono ?_;rintro e a ⟨rfl,rfl⟩;rw[e4])|(go_at_call 117;refine(nV _ _ g).mono ?_;rintro e a ⟨rfl,rfl⟩;rw[e5])|(go_at_call 122;refine(uZ B b _ v _ _ _ d).mono ?_;rintro e a ⟨rfl,j,k⟩))
      go_end0
      exact⟨rfl,by unfold Cut.N;rw[e1,e3,e4,e5,if_neg Od,if_neg f];exact j,O.t k⟩
     ·go_enter func70,ntmps70
      go_wp2_with (first|(go_at_call 121;refine(kQ _ _).mono ?_;rintro e a ⟨rfl,rfl⟩;rw[e1])|(go_at_call 115;refine(jN _ _).mono ?_;rintro e a ⟨rfl,rfl⟩;rw[e3])|(go_at_call 116;refine(kP _ _).mono ?_;rintro e a ⟨rfl,rfl⟩;rw[e4])|(go_at_call 117;refine(nV _ _ g).mono ?_;rintro e a ⟨rfl,rfl⟩;rw[e5]))
      go_end0
      exact⟨rfl,by unfold Cut.N;rw[e1,e3,e4,e5,if_neg Od,if_neg f];exact d.setMode 4,O.set 4 _⟩
    ·go_enter func70,ntmps70
     go_wp2_with (first|(go_at_call 121;refine(kQ _ _).mono ?_;rintro e a ⟨rfl,rfl⟩;rw[e1])|(go_at_call 115;refine(jN _ _).mono ?_;rintro e a ⟨rfl,rfl⟩;rw[e3])|(go_at_call 116;refine(kP _ _).mono ?_;rintro e a ⟨rfl,rfl⟩;rw[e4]))
     go_end0
     exact⟨rfl,by unfold Cut.N;rw[e1,e3,e4,if_neg Od,if_neg f];exact d.setMode 3,O.set 4 _⟩
   ·go_enter func70,ntmps70
    go_wp2_with (first|(go_at_call 121;refine(kQ _ _).mono ?_;rintro e a ⟨rfl,rfl⟩;rw[e1])|(go_at_call 115;refine(jN _ _).mono ?_;rintro e a ⟨rfl,rfl⟩;rw[e3]))
    go_end0
    exact⟨rfl,by unfold Cut.N;rw[e1,e3,if_neg Od,if_neg f];exact d.setMode 2,O.set 4 _⟩
 ·go_enter func70,ntmps70
  go_wp2_with (first|(go_at_call 121;refine(kQ _ _).mono ?_;rintro e a ⟨rfl,rfl⟩;rw[e1]))
  go_end0
  exact⟨rfl,by unfold Cut.N;rw[e1,if_pos rfl];exact d.setMode 0,O.set 4 _⟩
def Cut.named(c:Cut)(t:ByteArray):Cut:=
 if 12 < Lib.runeCount t then c.fail 1 c.start else if spB t.data.toList then c.push (spK t.data.toList) 0 (ByteArray.mk #[])else c.push 1 0 t
theorem aL4(s:ByteArray)(w:World)(b:s.size<=281474976710656):
 Calls prog 182 #[.string s] w fun e a=>e= .returned (.string s)/\Below w.1.size w a:=by
 go_enter func182,ntmps182
 go_wp2_with (go_at_call 240;refine(stringslite_Clone s _ b).mono ?_;rintro e a ⟨rfl,c⟩)
 go_ret;exact⟨rfl,c⟩
theorem eC{P:Program}{G:Array Oper}{o:Oper}{a:Act}{w:World}{K:Act->World->Prop}{Q:Exit->Act->World->Prop}{E:Prop}(d:o.guard=none)(f:FuncId)(args:Array Value)(R:Ending->World->Prop)(c:(execOp a.eval o).run P w= .ok (.enter f args) w)(g:Calls P f args w R)(h:∀ e b,R e b->∃ v,e= .returned v/\K (a.put o.dst v) b):
 if Region.wanted o (yielded G a.tmps)=true then Oper.wp P o a w K Q else E:=by
 have i:Region.wanted o (yielded G a.tmps)=true:=by simp[Region.wanted,d]
 rw[if_pos i];unfold Oper.wp;rw[c,Oper.upon_enter];refine g.mono ?_
 grind
theorem zI{w w':World}{r:Option Nat}(h:w.grownBy w' r):w.drew.grownBy w' r:=⟨h.os,h.tape,h.output,h.size,h.block⟩
theorem zR(B b:Nat)(c:Cut)(v:Value)(t:ByteArray)(w:World)(h:eV B b c v w)(M:Tab w)(F:0 < b)(K:B<=w.1.size)(hn:c.words.length<=5000)(hz:t.size<=5000):
 Calls prog 118 #[Qd b,.string t] w fun Y j=>Y= .returned (.tuple #[])/\
  (∃ V,eV B b (c.named t) V j)/\Kp b w j:=by
 have C:b < w.1.size:=Qp w _ h.wordsAt;obtain⟨s,A,y,x,u⟩:=info_parts info143;have a2:(Lib.runeCount t:Int)<=5000:=by have:=Lib.runeCount_le t;omega
 go_enter func118,ntmps118
 go_wp2_with fail
 refine(utf8_RuneCountInString t _ Oa).mono ?_;rintro e j ⟨rfl,pos,rfl⟩;have a:=h.iter C t pos;have p:=Kp.iter C t pos;have f:b < (w.iter t pos).1.size:=Qp _ _ a.wordsAt;have y1:B<=(w.iter t pos).1.size:=Qm K (by show _<=(w.alloc _).1.size;simp);have z:=M.below p.below F;generalize w.iter t pos=W at*;have G:=a.wordsAt;have h5:=a.start;have D:=a.thawed 1;have r:=a.own;have n:some b≠v.ownBlock:=fun e=>by have:=(r.lt b e.symm).1;have:=h.lt;omega
 by_cases q:12 < Lib.runeCount t
 ·have l:Hid (c.named t=c.fail 1 c.start):=if_pos q;have N:(12:Int) < (Lib.runeCount t:Int):=Oa
  go_wp2_with (go_at_call 122;refine(uZ B b c v _ _ _ a).mono ?_;rintro e j ⟨rfl,P,L⟩)
  refine bodyPost_ret (results_none rfl _ _ _) rfl ?_;exact⟨rfl,⟨v,by rw[l.o];exact P⟩,p.t L⟩
 ·have N: ¬(12:Int) < (Lib.runeCount t:Int):=Oa
  cases hs:spB t.data.toList
  ·have l:Hid (c.named t=c.push 1 0 t):=by unfold Hid Cut.named;rw[if_neg q,hs];rfl
   go_wp2_with (first|(go_at_call 181;refine(oE _ _ z).mono ?_;rintro e j ⟨rfl,rfl⟩;rw[hs]))
   go_region_law
    (first
      |(refine step_append_lies _ (by rfl) _ _ _ (by rfl) B 143 s _ 4 40 underlying85 A y x u rfl Oa v c.words.length (fJ c.words) (by rfl) (I.alloc _)
         ⟨m.1.size,0,none⟩ 1 1 (Tok.cells ⟨1,c.start,t,0⟩) (by rfl) (by rfl) (World.news_of_block (cs:=#[Qc 1,Qc c.start,.string t,Qc 0]) (t:=143) (fr:=(0,0)) (Qk m _)) (by simp[Tok.cells,Value.oneCell'])
         Oa (by unfold maxLen;omega) Oa (by simp;omega) (m.1.size+1) Od ?_;intro E J X k H Q O;have d:=zI H;have T:=(d.cell_far ⟨b,1,none⟩ (kO i) n).t (sS i R);have U:=(d.frozen_far ⟨b,1,none⟩ (kO i) n).t (xB i S))
      |(refine eC rfl 182 #[.string t] _ (by go_simp) (aL4 t _ Oa) ?_;rintro e m ⟨rfl,o⟩;refine⟨_,rfl,?_⟩;have g:=(a.drewN 1).below o;have Z:=(Kp.drewN b W 1).t (Kp.of_below o f);have R:=g.wordsAt;have S:=g.thawed 1;have p5:=g.start;have I:=g.own;have i:b < m.1.size:=Nat.lt_of_lt_of_le f o.size;have a1:B<=m.1.size:=Qm y1 o.size))
   all_goals go_wp2
   all_goals refine bodyPost_end (results_none rfl _ _ _) rfl ?_
   all_goals exact⟨rfl,by rw[l.o];exact(eV.pushed g i k d).1,(p.t Z).t (eV.pushed g i k d).2⟩
  ·have l:Hid (c.named t=c.push (spK t.data.toList) 0 (ByteArray.mk #[])):=by unfold Hid Cut.named;rw[if_neg q,hs];rfl
   go_wp2_with (first|(go_at_call 181;refine(oE _ _ z).mono ?_;rintro e j ⟨rfl,rfl⟩;rw[hs]))
   go_region_law
    ((refine step_append_lies _ (by rfl) _ _ _ (by rfl) B 143 s _ 4 40 underlying85 A y x u rfl Oa v c.words.length (fJ c.words) (by rfl) ((r.alloc _).drew)
       ⟨W.1.size,0,none⟩ 1 1 (Tok.cells ⟨spK t.data.toList,c.start,ByteArray.mk #[],0⟩) (by rfl) (by rfl) (World.news_of_block (cs:=#[Qc (spK t.data.toList),Qc c.start,.string (ByteArray.mk #[]),Qc 0]) (t:=143) (fr:=(0,0)) (Qk W _)) (by simp[Tok.cells,Value.oneCell'])
       Oa (by unfold maxLen;omega) Oa (by simp;omega) (W.1.size+1) Od ?_;intro E J X k d Q O;have T:=(d.cell_far ⟨b,1,none⟩ (kO f) n).t (sS f G);have U:=(d.frozen_far ⟨b,1,none⟩ (kO f) n).t (xB f D)))
   all_goals go_wp2
   all_goals refine bodyPost_ret (results_none rfl _ _ _) rfl ?_
   all_goals exact⟨rfl,by rw[l.o];exact(eV.pushed a f k d).1,p.t (eV.pushed a f k d).2⟩
def Cut.D(c:Cut)(e:Nat):Cut:=
 if c.mode=2 then c.named (c.f.extract c.start.toNat e)
 else if c.mode=3 then c.number (c.f.extract c.start.toNat e)
 else if c.mode=4 then c.sign (c.f.extract c.start.toNat e)
 else c
theorem zP(B b:Nat)(c:Cut)(v:Value)(e:Nat)(w:World)(h:eV B b c v w)(s:Tab w)(t:0 < b)(n:B<=w.1.size)(o:c.words.length<=5000)(A:e<=c.f.size)(E:c.f.size<=5000)(C:0<=c.start/\c.start<=e)(y:c.mode=3->bQH (c.f.extract c.start.toNat e).data.toList):
 Calls prog 69 #[Qd b,Qc e] w fun x k=>x= .returned (.tuple #[])/\
  (∃ z,eV B b (c.D e) z k)/\Kp b w k:=by
 have g0:=h.f;have m:=h.mode;have u:=h.start;obtain⟨st,g⟩:∃ st:Nat,c.start=st:=⟨c.start.toNat,Oa⟩;rw[g]at u;have D:st<=e:=Oa
 have q:(c.f.extract st e).size<=5000:=by rw[ByteArray.size_extract];omega
 by_cases d:c.mode=2
 ·have a:Hid (c.D e=c.named (c.f.extract st e)):=by unfold Hid Cut.D;rw[if_pos d,g,Int.toNat_natCast]
  rw[d]at m;go_enter func69,ntmps69
  go_wp2;go_quiet (fail)
  go_wp2_with fail
  refine(zR B b c v _ _ (h.drewN _) (fun p hi=>s p hi) t n o q).mono ?_;rintro x k ⟨rfl,i,j⟩;go_wp2;go_end0
  exact⟨rfl,by rw[a.o];exact i,(Kp.drewN b w _).t j⟩
 have F:(c.mode==2)=false:=by simpa using d
 by_cases f:c.mode=3
 ·have a:Hid (c.D e=c.number (c.f.extract st e)):=by unfold Hid Cut.D;rw[if_neg d,if_pos f,g,Int.toNat_natCast]
  have r:=y f;rw[g,Int.toNat_natCast]at r;rw[f]at m;go_enter func69,ntmps69
  go_wp2;go_quiet (fail)
  go_wp2_with fail
  refine(wI B b c v _ _ (h.drewN _) n o r q).mono ?_;rintro x k ⟨rfl,i,j⟩;go_wp2;go_end0
  exact⟨rfl,by rw[a.o];exact i,(Kp.drewN b w _).t j⟩
 have G:(c.mode==3)=false:=by simpa using f
 by_cases l:c.mode=4
 ·have a:Hid (c.D e=c.sign (c.f.extract st e)):=by unfold Hid Cut.D;rw[if_neg d,if_neg f,if_pos l,g,Int.toNat_natCast]
  rw[l]at m;go_enter func69,ntmps69
  go_wp2;go_quiet (fail)
  go_wp2_with fail
  refine(zQ B b c v _ _ (h.drewN _) (fun p hi=>s p hi) n o).mono ?_;rintro x k ⟨rfl,i,j⟩;go_wp2;go_end0
  exact⟨rfl,by rw[a.o];exact i,(Kp.drewN b w _).t j⟩
 ·have H:(c.mode==4)=false:=by simpa using l
  have a:Hid (c.D e=c):=by unfold Hid Cut.D;rw[if_neg d,if_neg f,if_neg l]
  go_enter func69,ntmps69
  go_wp2;go_quiet (fail)
  go_wp2;go_end0
  exact⟨rfl,⟨v,by rw[a.o];exact h.drewN _⟩,Kp.drewN b w _⟩
def Cut.step(c:Cut)(p:Nat)(r:Int):Cut:=if c.goes p r then c else(c.D p).N p r
def Cut.run(c:Cut):Nat->Nat->Cut
 |0,_=>c
 |n+1,p=>
  if p < c.f.size then
   if(c.step p (Utf8.decode c.f p).1).a≠0 then c.step p (Utf8.decode c.f p).1
   else(c.step p (Utf8.decode c.f p).1).run n (p+(Utf8.decode c.f p).2)
  else c.D p
def dN(s:ByteArray):Cut:=(⟨s,[],0,0,0,0⟩:Cut).run (s.size+1) 0
theorem zW(s:ByteArray)(p:Nat)(h:p < s.size):p+(Utf8.decode s p).2<=s.size:=by
 grind[Utf8.decode]
structure bQ9(c:Cut)(p:Nat):Prop where
 lo:0<=c.start
 hi:c.start<=p
 le:p<=c.f.size
 digits:c.mode=3->bQH (c.f.extract c.start.toNat p).data.toList
 count:c.words.length<=c.start
 some_:c.mode≠0->c.start < p
theorem Cut.fail_text(c:Cut)(e p:Int):(c.fail e p).f=c.f/\(c.fail e p).words=c.words/\(c.fail e p).start=c.start/\(c.fail e p).mode=c.mode:=by
 grind[Cut.fail]
theorem Cut.Z(c:Cut)(p:Nat):(c.D p).f=c.f/\(c.D p).start=c.start/\(c.D p).mode=c.mode/\((c.D p).words.length=c.words.length\/(c.mode≠0/\(c.D p).words.length=c.words.length+1)):=by
 unfold Cut.D
 by_cases a:c.mode=2
 ·rw[if_pos a];unfold Cut.named Cut.push;have:=c.fail_text 1 c.start
  grind
 rw[if_neg a]
 by_cases b:c.mode=3
 ·rw[if_pos b];unfold Cut.number Cut.push;have:=c.fail_text 3 c.start
  grind
 rw[if_neg b]
 by_cases d:c.mode=4
 ·rw[if_pos d];unfold Cut.sign Cut.push;have:=c.fail_text 1 c.start
  grind
 simp[*]
theorem Cut.begins_keeps(c:Cut)(p r:Int):(c.N p r).f=c.f/\(c.N p r).start=p/\(c.N p r).words=c.words/\((c.N p r).a=0->(c.N p r).mode=3->kZ r=true):=by
 unfold Cut.N
 by_cases a:aA0 r=true
 ·simp[*]
 rw[if_neg a]
 by_cases b:r=35
 ·simp[*]
 rw[if_neg b]
 by_cases d:oK r=true
 ·simp[*]
 rw[if_neg d]
 by_cases e:kZ r=true
 ·simp[*]
 rw[if_neg e]
 by_cases f:bsB (Utf8.encode r).data.toList=true
 ·simp[*]
 rw[if_neg f];have:=({c with start:=p}:Cut).fail_text 1 p;have g:(({c with start:=p}:Cut).fail 1 p).a≠0:=by grind[Cut.fail]
 simp[*]
theorem aEY(s:ByteArray)(p:Nat)(h:p < s.size)(a:kZ (Utf8.decode s p).1=true):(Utf8.decode s p).2=1/\48<=s[p].toNat/\s[p].toNat<=57:=by
 grind[kZ,decode_ascii,decode_high]
theorem vB(s:ByteArray)(a p:Nat)(h:p < s.size)(b:a<=p):(s.extract a (p+1)).data.toList=(s.extract a p).data.toList++[s[p]]:=by
 rw[Lib.extract_data,Lib.extract_data,show p+1 - a=(p - a)+1 from by omega,List.take_succ_eq_append_getElem (by simp;omega)]
 congr 1
 simp
 congr 1
 omega
theorem bQ9.step{c:Cut}{p:Nat}(h:bQ9 c p)(b:p < c.f.size)(g:(c.step p (Utf8.decode c.f p).1).a=0):bQ9 (c.step p (Utf8.decode c.f p).1) (p+(Utf8.decode c.f p).2)/\(c.step p (Utf8.decode c.f p).1).f=c.f:=by
 have w:=Lib.decode_width_pos c.f p b;have s:=zW c.f p b;have v:=h.lo;have u:=h.hi;unfold Cut.step
 by_cases i:c.goes p (Utf8.decode c.f p).1=true
 ·rw[if_pos i];refine⟨⟨h.lo,Oa,s,fun m=>?_,h.count,Oa⟩,rfl⟩
  have a:kZ (Utf8.decode c.f p).1=true:=by
   grind[Cut.goes]
  obtain⟨f,q,r⟩:=aEY c.f p b a;rw[f,vB _ _ _ b Oa];intro d a;rcases List.mem_append.1 a with a|a
  ·exact h.digits m d a
  grind
 ·rw[if_neg i];obtain⟨o,t,f3,e⟩:=c.Z p;obtain⟨k,j,l,n⟩:=(c.D p).begins_keeps p (Utf8.decode c.f p).1;refine⟨⟨Oa,Oa,Qh,fun m=>?_,?_,Oa⟩,Qh⟩
  ·unfold Cut.step at g;rw[if_neg i]at g;obtain⟨f,q,r⟩:=aEY c.f p b (n g m);rw[j,Int.toNat_natCast,k,o,f,vB _ _ _ b Oa];intro d a
   grind[Lib.extract_data]
  ·rw[l,j];have:=h.count;rcases e with e|⟨m,e⟩
   ·omega
   ·have:=h.some_ m;omega
theorem bQ9.start(s:ByteArray):bQ9 ⟨s,[],0,0,0,0⟩ 0:=⟨Od,Od,Od,Od,Od,Od⟩
end Go.Proofs.YtikffmloeifkpaaGreatDoor
