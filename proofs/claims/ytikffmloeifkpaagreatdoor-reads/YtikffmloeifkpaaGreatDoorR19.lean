/- Contracts. -/
import Derived.Test.YtikffmloeifkpaaGreatDoorR17
set_option maxHeartbeats 4000000
set_option maxRecDepth 100000
theorem List.IsPrefix.t{α:Type _}{a b c:List α}(h:a <+:b)(k:b <+:c):a <+:c:=h.trans k
namespace Go.Proofs.YtikffmloeifkpaaGreatDoor
open Go.RowKit Go.Lib Go.Deep Go.ChangeMaps Go.MapKept Tryz
section
structure NQ where
 d:Int
 at_:Int:=0
 s:ByteArray:=⟨#[]⟩
 n:Int:=0
 mid:Int:=0
 c:List Int:=[]
 g:List aU:=[]
 e:List Int:=[]
 b:Int:=0
 ref:Int:=0
 f:Int:=0
structure QS where
 i:Nat
 op:Int
 a:Int
 e:Int
 L:List NQ
 c:List Int
abbrev V3:=Value × Value × Value
def fQ(l:List Int):List Value:=l.map (Value.int .i64)
def NdV(a:NQ)(v:V3):List Value:=[Qc a.d,Qc a.at_,.string a.s,Qc a.n,Qc a.mid,v.1,v.2.1,v.2.2,Qc a.b,Qc a.ref,Qc a.f]
def mM:List NQ->List V3->List Value
 |a::L,v::V=>NdV a v++mM L V
 |_,_=>[]
structure uA(H:Nat)(w:World)(a:NQ)(v:V3):Prop where
 k:w.ownsRow H 3 1 v.1 a.c.length (fQ a.c)
 p:w.ownsRow H 220 4 v.2.1 a.g.length (dD a.g)
 h:w.ownsRow H 3 1 v.2.2 a.e.length (fQ a.e)
def kZ(H:Nat)(w:World):List NQ->List V3->Prop
 |[],[]=>True
 |a::L,v::V=>uA H w a v/\kZ H w L V
 |_,_=>False
def iX(v:V3)(k:Nat):Prop:=v.1.ownBlock=some k\/v.2.1.ownBlock=some k\/v.2.2.ownBlock=some k
def uC(V:List V3)(k:Nat):Prop:=∃ v∈V,iX v k
theorem uA.move{H:Nat}{w w':World}{a:NQ}{v:V3}(h:uA H w a v)(c:∀ k,iX v k->w'.1[k]?=w.1[k]?):uA H w' a v:=
 ⟨aR h.k (fun k b=>c k (.l b)),aR h.p (fun k b=>c k (.r (.l b))),aR h.h (fun k b=>c k (.r (.r b)))⟩
theorem kZ.move{H:Nat}{w w':World}:∀ {L:List NQ} {V:List V3},kZ H w L V->(∀ k,uC V k->w'.1[k]?=w.1[k]?)->kZ H w' L V
 |[],[],_,_=>trivial
 |_::_,v::_,h,hw=>⟨h.1.move (fun k a=>hw k ⟨v,Qs,a⟩),kZ.move h.2 (fun k ⟨u,b,a⟩=>hw k ⟨u,Qu _ b,a⟩)⟩
theorem uA.typ{H:Nat}{w:World}{a:NQ}{v:V3}(h:uA H w a v){k:Nat}(b:iX v k):(∃ f,w.1[k]?=some (.cells f 3 (0,0))\/w.1[k]?=some (.cells f 220 (0,0)))/\H<=k:=by
 rcases b with b|b|b
 ·obtain⟨⟨c,e⟩,d⟩:=aW h.k b;exact⟨⟨c,.l e⟩,d⟩
 ·obtain⟨⟨c,e⟩,d⟩:=aW h.p b;exact⟨⟨c,.r e⟩,d⟩
 ·obtain⟨⟨c,e⟩,d⟩:=aW h.h b;exact⟨⟨c,.l e⟩,d⟩
theorem kZ.typ{H:Nat}{w:World}{k:Nat}:∀ {L:List NQ} {V:List V3},kZ H w L V->uC V k->(∃ b,w.1[k]?=some (.cells b 3 (0,0))\/w.1[k]?=some (.cells b 220 (0,0)))/\H<=k
 |[],[],_,⟨_,hv,_⟩=>by cases hv
 |_::_,_::_,h,⟨u,a,hk⟩=>by
  rcases List.mem_cons.1 a with rfl|a
  ·exact h.1.typ hk
  ·exact kZ.typ h.2 ⟨u,a,hk⟩
theorem kZ.snoc{H:Nat}{w:World}{a:NQ}{v:V3}:∀ {L:List NQ} {V:List V3},kZ H w L V->uA H w a v->kZ H w (L++[a]) (V++[v])
 |[],[],_,h=>⟨h,trivial⟩
 |_::_,_::_,h,h2=>⟨h.1,kZ.snoc h.2 h2⟩
theorem mM.snoc{a:NQ}{v:V3}:∀ {L:List NQ} {V:List V3},L.length=V.length->mM (L++[a]) (V++[v])=mM L V++NdV a v
 |[],[],_=>by simp[mM]
 |b::L,u::V,h=>by
  show NdV b u++mM (L++[a]) (V++[v])=(NdV b u++mM L V)++_;rw[mM.snoc (by simpa using h),List.append_assoc]
theorem kZ.len{H:Nat}{w:World}:∀ {L:List NQ} {V:List V3},kZ H w L V->L.length=V.length
 |[],[],_=>rfl
 |_::_,_::_,h=>by simp[kZ.len h.2]
structure PW(H O U gw cw:Nat)(T:List aU)(st:QS)(Y vI:Value)(V:List V3)(w:World):Prop where
 words:w.ownsRow H 220 4 (Qe gw T.length cw) T.length (dD T)
 par:w.1[O]?=some (Qf #[Qe gw T.length cw,Qc st.i,Qc st.op,Qc st.a,Qc st.e,Qd U] 126)
 prog:w.1[U]?=some (Qf #[Y,vI,.slice none 0 0,.slice none 0 0,Qc 0,.slice none 0 0] 76)
 nodes:w.ownsRow H 73 11 Y st.L.length (mM st.L V)
 its:w.ownsRow H 3 1 vI st.c.length (fQ st.c)
 c:kZ H w st.L V
 lt:st.i < T.length
 few:T.length<=5000
 ends:(aE T (T.length - 1)).d=0
 off:∀ k,vI.ownBlock=some k->¬uC V k
structure Px(O U:Nat)(Y vL':Value)(V V':List V3)(w w':World):Prop where
 os:w'.os=w.os
 tape:w'.tape=w.tape
 output:w'.output=w.output
 size:w.1.size<=w'.1.size
 keep:∀ k,k < w.1.size->k≠O->k≠U->Y.ownBlock≠some k->w'.1[k]?=w.1[k]?
 row:∀ k,vL'.ownBlock=some k->Y.ownBlock=some k\/w.1.size<=k
 used:∀ k,uC V' k->uC V k\/w.1.size<=k
theorem Px.refl(O U:Nat)(Y:Value)(V:List V3)(w:World):Px O U Y Y V V w w:=⟨rfl,rfl,rfl,Ql _,fun _ _ _ _ _=>rfl,fun _ h=> .l h,fun _ h=> .l h⟩
theorem Px.t{O U:Nat}{m n o:Value}{b c d:List V3}{w1 w2 w3:World}(h:Px O U m n b c w1 w2)(k:Px O U n o c d w2 w3):Px O U m o b d w1 w3:=by
 refine⟨k.os.t h.os,k.tape.t h.tape,k.output.t h.output,Qm h.size k.size,fun j a g i l=>?_,fun j a=>?_,fun j a=>?_⟩
 ·refine(k.keep j (Nat.lt_of_lt_of_le a h.size) g i (fun e=>?_)).t (h.keep j a g i l);rcases h.row j e with f|f
  ·exact l f
  ·omega
 ·rcases k.row j a with e|e
  ·exact h.row j e
  ·exact .r (Qm h.size e)
 ·rcases k.used j a with e|e
  ·exact h.used j e
  ·exact .r (Qm h.size e)
def dF(T:List aU)(st:QS)(s:ByteArray):Bool:=decide ((aE T st.i).d=3)&&decide ((aE T st.i).f=s)
def qM(T:List aU)(st:QS)(all:ByteArray):Bool:=decide ((aE T st.i).d=3)&&inQ (aE T st.i).f all
def aG(T:List aU)(st:QS):QS:=if(aE T st.i).d≠0 then {st with i:=st.i+1}else st
def dW(T:List aU)(st:QS):QS:=if st.a=0 then {st with a:=2,e:=(aE T st.i).e}else st
def cO(T:List aU)(s:ByteArray)(st:QS):QS:=if st.a≠0 then st else if dF T st s=true then aG T st else dW T st
def aO(T:List aU)(s:ByteArray)(st:QS):QS:=cO T s (if dF T st s=true/\st.a=0/\st.op=10 then {st with a:=6,e:=(aE T st.i).e,op:=wrap64 (st.op+1)}else {st with op:=wrap64 (st.op+1)})
def cN(T:List aU)(s:ByteArray)(st:QS):QS:=cO T s {st with op:=wrap64 (st.op - 1)}
def cX(T:List aU)(k:Int)(st:QS):QS:=if(aE T st.i).d≠k then dW T st else aG T st
def dC(T:List aU)(k:Int)(st:QS):aU:=if(aE T st.i).d≠k then uE else aE T st.i
def cQ(a:NQ)(st:QS):QS:={st with L:=st.L++[{a with f:=-1}]}
section
variable {H O U gw cw:Nat} {T:List aU} {st:QS} {Y vI:Value} {V:List V3} {w w':World}
theorem PW.word(h:PW H O U gw cw T st Y vI V w)(j:Nat)(e:j < 4):w.cell? ⟨gw,st.i*4+j,none⟩=(aE T st.i).cells[j]?:=by
 obtain⟨_,f⟩:=h.words;rcases f with⟨a,_⟩|⟨g,J,i,a,_,d,_,_,_,h0⟩
 ·cases a
 ·simp only[Value.slice.injEq,Option.some.injEq,Addr.mk.injEq]at a;obtain⟨⟨rfl,_⟩,_⟩:=a;have c:=h.lt;have b:=sY T st.i (aE T st.i) (lN c) j e;rw[<-h0,List.getElem?_take,if_pos Oa]at b;rw[cell_of_row _ _ _ _ _ _ d,<-b];simp
theorem PW.cells(h:PW H O U gw cw T st Y vI V w):w.cell? ⟨O,0,none⟩=some (Qe gw T.length cw)/\w.cell? ⟨O,1,none⟩=some (Qc st.i)/\w.cell? ⟨O,2,none⟩=some (Qc st.op)/\w.cell? ⟨O,3,none⟩=some (Qc st.a)/\w.cell? ⟨O,4,none⟩=some (Qc st.e)/\w.cell? ⟨O,5,none⟩=some (Qd U)/\∀ o,w.frozen? ⟨O,o,none⟩=false:=
 ⟨Og h.par rfl,Og h.par rfl,Og h.par rfl,Og h.par rfl,Og h.par rfl,Og h.par rfl,fun o=>by simp[World.frozen?,h.par]⟩
theorem PW.turn(h:PW H O U gw cw T st Y vI V w){st':QS}(d:st'.L=st.L)(o:st'.c=st.c)(l:st'.i < T.length)(r:w'.1[O]?=some (Qf #[Qe gw T.length cw,Qc st'.i,Qc st'.op,Qc st'.a,Qc st'.e,Qd U] 126))(q:∀ k,k < w.1.size->k≠O->w'.1[k]?=w.1[k]?):PW H O U gw cw T st' Y vI V w':=by
 have off:∀ {k:Nat} {j:Array Value} {t:TypeId},w.1[k]?=some (.cells j t (0,0))->t≠126->w'.1[k]?=w.1[k]?:=fun a h0=>q _ (Oo a) (bR a h.par h0)
 have b:∀ {n g:Nat} {e:TypeId} {v:Value} {i:List Value},w.ownsRow H e g v n i->e≠126->w'.ownsRow H e g v n i:=fun f h0=>aR f (fun k p=>by
  obtain⟨⟨c,a⟩,_⟩:=aW f p;exact off a h0)
 have m:kZ H w' st.L V:=h.c.move (fun k s=>by
  obtain⟨⟨c,a⟩,_⟩:=h.c.typ s;rcases a with a|a
  ·exact off a Ob
  ·exact off a Ob)
 exact⟨b h.words Ob,r,(off h.prog Ob).t h.prog,by rw[d];exact b h.nodes Ob,by rw[o];exact b h.its Ob,by rw[d];exact m,l,h.few,h.ends,h.off⟩
theorem PW.same(h:PW H O U gw cw T st Y vI V w)(a:∀ k,k < w.1.size->w'.1[k]?=w.1[k]?):PW H O U gw cw T st Y vI V w':=
 h.turn rfl rfl h.lt ((a O (Oo h.par)).t h.par) (fun k b _=>a k b)
theorem Px.of_turn(a:w'.os=w.os/\w'.tape=w.tape/\w'.output=w.output/\w.1.size<=w'.1.size)(b:∀ k,k < w.1.size->k≠O->w'.1[k]?=w.1[k]?):Px O U Y Y V V w w':=
 ⟨a.1,a.2.1,a.2.2.1,a.2.2.2,fun k c d _ _=>b k c d,fun _ h=> .l h,fun _ h=> .l h⟩
end
end
section
variable {H O U gw cw:Nat} {T:List aU} {st:QS} {Y vI:Value} {V:List V3} {w w':World}
theorem PW.w4(h:PW H O U gw cw T st Y vI V w):w.cell? ⟨gw,st.i*4,none⟩=some (Qc (aE T st.i).d)/\w.cell? ⟨gw,st.i*4+1,none⟩=some (Qc (aE T st.i).e)/\w.cell? ⟨gw,st.i*4+2,none⟩=some (.string (aE T st.i).f)/\w.cell? ⟨gw,st.i*4+3,none⟩=some (Qc (aE T st.i).a):=
 ⟨h.word 0 Oa,h.word 1 Oa,h.word 2 Oa,h.word 3 Oa⟩
theorem uG(x y:ByteArray):(x.toList==y.toList)=decide (x=y):=by
 grind[Lib.toList_data,ByteArray.ext,Array.ext']
theorem pG(s:ByteArray)(h:PW H O U gw cw T st Y vI V w):Calls prog 102 #[Qd O,.string s] w fun e w'=>e= .returned (.bool (dF T st s))/\∃ n,w'=w.drewN n:=by
 obtain⟨p0,i,_,_,_,_,_⟩:=h.cells;obtain⟨x0,_,j,_⟩:=h.w4;have g:=h.lt;have f:=h.few;have hi:0<=(st.i:Int)/\(st.i:Int) < (T.length:Int):=Oa
 obtain⟨R,a⟩:∃ R,R=dF T st s:=⟨_,rfl⟩;rw[<-a];unfold dF at a;have d:=uG (aE T st.i).f s
 by_cases b:(aE T st.i).d=3
 ·have t0:((aE T st.i).d==3)=true:=by simp[b]
  have c:Hid (R=((aE T st.i).f.toList==s.toList)):=by rw[Hid,a,d,decide_eq_true b,Bool.true_and]
  clear a b h d;go_enter func102,ntmps102
  go_upto_region 1 with fail
  go_quiet (fail)
  go_wp2;go_ret;rw[c.o];exact⟨rfl,_,rfl⟩
 ·have t0:((aE T st.i).d==3)=false:=by simp[b]
  have c:Hid (R=false):=by rw[Hid,a,decide_eq_false b,Bool.false_and]
  clear a b h d;go_enter func102,ntmps102
  go_upto_region 1 with fail
  go_quiet (fail)
  go_wp2;go_ret;rw[c.o];exact⟨rfl,_,rfl⟩
theorem aJN(s:ByteArray)(f:s.size<=1000)(h:PW H O U gw cw T st Y vI V w):Calls prog 230 #[Qd O,.string s] w fun e w'=>e= .returned (.bool (qM T st s))/\∃ n,w'=w.drewN n:=by
 obtain⟨p0,j,_,_,_,_,_⟩:=h.cells;obtain⟨x0,_,k,_⟩:=h.w4;have i:=h.lt;have g:=h.few;have hi:0<=(st.i:Int)/\(st.i:Int) < (T.length:Int):=Oa
 obtain⟨R,a⟩:∃ R,R=qM T st s:=⟨_,rfl⟩;rw[<-a];unfold qM at a;have h0:=fun w=>aVY (aE T st.i).f s w f
 by_cases b:(aE T st.i).d=3
 ·have t0:((aE T st.i).d==3)=true:=by simp[b]
  have d:Hid (R=inQ (aE T st.i).f s):=by rw[Hid,a,decide_eq_true b,Bool.true_and]
  clear a b h;go_enter func230,ntmps230
  go_upto_region 1 with fail
  go_quiet ((go_at_call 165;exact Calls.quiet_of_same ((h0 _).mono fun _ _ c=>⟨c.1,c.2.symm⟩)))
  go_wp2;go_ret;rw[d.o];exact⟨rfl,_,rfl⟩
 ·have t0:((aE T st.i).d==3)=false:=by simp[b]
  have d:Hid (R=false):=by rw[Hid,a,decide_eq_false b,Bool.false_and]
  clear a b h;go_enter func230,ntmps230
  go_upto_region 1 with fail
  go_quiet ((go_at_call 165;exact Calls.quiet_of_same ((h0 _).mono fun _ _ c=>⟨c.1,c.2.symm⟩)))
  go_wp2;go_ret;rw[d.o];exact⟨rfl,_,rfl⟩
end
section
variable {H O U gw cw:Nat} {T:List aU} {st:QS} {Y vI:Value} {V:List V3} {w w':World}
theorem PW.lt_pb(h:PW H O U gw cw T st Y vI V w):O < w.1.size:=(Oo h.par)
theorem PW.put(h:PW H O U gw cw T st Y vI V w){st':QS}(a:Ex O w w')(c:st'.L=st.L)(b:st'.c=st.c)(h0:st'.i < T.length)(d:w'.1[O]?=some (Qf #[Qe gw T.length cw,Qc st'.i,Qc st'.op,Qc st'.a,Qc st'.e,Qd U] 126)):PW H O U gw cw T st' Y vI V w'/\Ex O w w':=
 ⟨h.turn c b h0 d a.block,a⟩
theorem PW.stay(h:PW H O U gw cw T st Y vI V w)(a:Ex O w w')(b:w'.1[O]?=w.1[O]?):PW H O U gw cw T st Y vI V w'/\Ex O w w':=h.put a rfl rfl h.lt (b.t h.par)
theorem PW.drewN(h:PW H O U gw cw T st Y vI V w)(n:Nat):PW H O U gw cw T st Y vI V (w.drewN n):=h.same Od
theorem xE(h:PW H O U gw cw T st Y vI V w):Calls prog 108 #[Qd O] w fun e w'=>e= .returned (.tuple #[])/\PW H O U gw cw T (dW T st) Y vI V w'/\Ex O w w':=by
 obtain⟨p0,k,_,l,m,_,d⟩:=h.cells;obtain⟨_,n,_,_⟩:=h.w4;have j:=h.lt;have i:=h.few;have hi:0<=(st.i:Int)/\(st.i:Int) < (T.length:Int):=Oa
 have f3:=d 3;have g:=d 4
 by_cases b:st.a=0
 ·have f:Hid (dW T st={st with a:=2,e:=(aE T st.i).e}):=if_pos b;have t0:(st.a==0)=true:=by simp[b]
  have c:Hid (PW H O U gw cw T st Y vI V w):=h;clear b h d;go_enter func108,ntmps108
  go_upto_region 1 with fail
  go_region
  all_goals go_wp2
  all_goals go_end0
  rw[f.o];exact⟨rfl,c.o.put (((Ex.refl O w).drew.set 3 _).set 4 _) rfl rfl c.o.lt (aI _ (aI _ c.o.par))⟩
 ·have f:Hid (dW T st=st):=if_neg b;have t0:(st.a==0)=false:=by simp[b]
  have c:Hid (PW H O U gw cw T st Y vI V w):=h;clear b h d;go_enter func108,ntmps108
  go_wp2;go_end0
  rw[f.o];exact⟨rfl,c.o,Ex.refl O w⟩
theorem lG(h:PW H O U gw cw T st Y vI V w):Calls prog 103 #[Qd O] w fun e w'=>e= .returned (aE T st.i).g/\PW H O U gw cw T (aG T st) Y vI V w'/\Ex O w w':=by
 obtain⟨p0,A,_,_,_,_,o⟩:=h.cells;obtain⟨x0,f,g,j⟩:=h.w4;have a2:=h.lt;have X:=h.few;have E:=h.lt_pb;have Z:gw < w.1.size:=Qp w _ x0;have hi:0<=(st.i:Int)/\(st.i:Int) < (T.length:Int):=Oa
 have a3:IntKind.i64.wrap ((st.i:Int)+1)=(st.i:Int)+1:=IntWalk.i64_in _ Oa;have p:=h.ends
 have s:(aE T st.i).d≠0->st.i+1 < T.length:=fun a=>by
  by_cases C:st.i=T.length - 1
  ·rw[<-C]at p;exact absurd p a
  ·omega
 have z:Hid (aG T st=if(aE T st.i).d≠0 then {st with i:=st.i+1}else st):=rfl;have n:Hid (PW H O U gw cw T st Y vI V w):=h;clear h p o;generalize D:aE T st.i=t at*;clear D;go_enter func103,ntmps103
 go_wp2;go_region
 have cP:(w.alloc (Qf #[Qc 0,Qc 0,.string (ByteArray.mk #[]),Qc 0] 220)).1.size=w.1.size+1:=Od
 have m:((w.alloc (Qf #[Qc 0,Qc 0,.string (ByteArray.mk #[]),Qc 0] 220)).alloc (Qf #[Qc t.d,Qc t.e,.string t.f,Qc t.a] 220)).drew.1[w.1.size]?=some (Qf #[Qc 0,Qc 0,.string (ByteArray.mk #[]),Qc 0] 220):=
  (On (by rw[cP];omega)).t (Qk w _)
 have c:((w.alloc (Qf #[Qc 0,Qc 0,.string (ByteArray.mk #[]),Qc 0] 220)).alloc (Qf #[Qc t.d,Qc t.e,.string t.f,Qc t.a] 220)).drew.1[w.1.size+1]?=some (Qf #[Qc t.d,Qc t.e,.string t.f,Qc t.a] 220):=by
  have:=Qk (w.alloc (Qf #[Qc 0,Qc 0,.string (ByteArray.mk #[]),Qc 0] 220)) (Qf #[Qc t.d,Qc t.e,.string t.f,Qc t.a] 220);rw[cP]at this;exact this
 have u:=(((Ex.refl O w).alloc (Qf #[Qc 0,Qc 0,.string (ByteArray.mk #[]),Qc 0] 220)).alloc (Qf #[Qc t.d,Qc t.e,.string t.f,Qc t.a] 220)).drew;have r:((w.alloc (Qf #[Qc 0,Qc 0,.string (ByteArray.mk #[]),Qc 0] 220)).alloc (Qf #[Qc t.d,Qc t.e,.string t.f,Qc t.a] 220)).drew.1[O]?=w.1[O]?:=(On (by rw[cP];omega)).t (On E);clear cP p0 A x0 f g j;generalize ((w.alloc (Qf #[Qc 0,Qc 0,.string (ByteArray.mk #[]),Qc 0] 220)).alloc (Qf #[Qc t.d,Qc t.e,.string t.f,Qc t.a] 220)).drew=W at*;have b:=n.o.stay u r;obtain⟨_,A,_,_,_,_,o⟩:=b.1.cells;have f1:=o 1;have h0:w.1.size≠O:=Oa
 have F:w.1.size+1≠O:=Oa
 clear o
 by_cases a:t.d=0
 ·have q:Hid (aG T st=st):=by rw[Hid,z.o,if_neg (by simp[a])]
  have t0:(t.d !=0)=false:=by simp[a]
  obtain⟨l0,J,K,L,x⟩:=bK c;obtain⟨z0,Q,R,S,l⟩:=bK m;have a8:=l 0;have a9:=l 1;have b2:=l 2;have b3:=l 3;obtain⟨x0,f,g,j⟩:=tV (u0:= Qc t.d) (u1:= Qc t.e) (u2:= .string t.f) (u3:= Qc t.a) z0 Q R S;have d:Hid (PW H O U gw cw T st Y vI V W/\Ex O w W):=b;clear a b r u m c l x s;go_wp2;refine bodyPost_ret (v:=t.g) (by simp[results,results103,go_sem,x0,f,g,j,aU.g]) rfl ⟨rfl,?_⟩;rw[q.o];have G:=((((d.o.2.j0 Ol 0 (Qc t.d)).j0 Ol 1 (Qc t.e)).j0 Ol 2 (.string t.f)).j0 Ol 3 (Qc t.a));exact n.o.stay G (((Om h0.symm).t ((Om h0.symm).t ((Om h0.symm).t (Om h0.symm)))).t (d.o.1.par.t n.o.par.symm))
 ·have q:Hid (aG T st={st with i:=st.i+1}):=by rw[Hid,z.o,if_pos a]
  have t0:(t.d !=0)=true:=by simp[a]
  have g0:(W.setCell ⟨O,1,none⟩ (Qc (↑st.i+1))).1[w.1.size]?=_:=(Om h0).t m;obtain⟨y0,M,N,P,k⟩:=bK g0;have a4:=k 0;have a5:=k 1;have a6:=k 2;have a7:=k 3;have y:(W.setCell ⟨O,1,none⟩ (Qc (↑st.i+1))).1[w.1.size+1]?=_:=(Om F).t c;obtain⟨k0,k1,k2,k3,I⟩:=bK y;obtain⟨l0,J,K,L,x⟩:=bK c;obtain⟨x0,f,g,j⟩:=tV (u0:= Qc t.d) (u1:= Qc t.e) (u2:= .string t.f) (u3:= Qc t.a) y0 M N P;have d:Hid (PW H O U gw cw T st Y vI V W/\Ex O w W):=b;have B:Hid (st.i+1 < T.length):=s a;clear g0 y a b r u m c I k x s;go_wp2;refine bodyPost_ret (v:=t.g) (by simp[results,results103,go_sem,x0,f,g,j,aU.g]) rfl ⟨rfl,?_⟩;rw[q.o];refine n.o.put (((((d.o.2.set 1 _).j0 Ol 0 _).j0 Ol 1 _).j0 Ol 2 _).j0 Ol 3 _) rfl rfl B.o ?_;exact(((Om h0.symm).t ((Om h0.symm).t ((Om h0.symm).t (Om h0.symm)))).t (aI _ d.o.1.par))
end
section
variable {H O U gw cw:Nat} {T:List aU} {st:QS} {Y vI:Value} {V:List V3} {w w':World}
theorem rM(s:ByteArray)(h:PW H O U gw cw T st Y vI V w):Calls prog 105 #[Qd O,.string s] w fun e w'=>e= .returned (.tuple #[])/\PW H O U gw cw T (cO T s st) Y vI V w'/\Ex O w w':=by
 obtain⟨_,_,_,f,_,_,_⟩:=h.cells
 by_cases a:st.a=0
 ·have t0:(st.a !=0)=false:=by simp[a]
  cases hb:dF T st s
  ·have b:Hid (cO T s st=dW T st):=by unfold Hid cO;rw[if_neg (by simp[a]),hb];rfl
   clear a;go_enter func105,ntmps105
   go_wp2_with (first|(go_at_call 102;refine(pG s h).mono ?_;rintro e w' ⟨rfl,n,rfl⟩;rw[hb])|(go_at_call 108;refine(xE (h.drewN _)).mono ?_;rintro e w' ⟨rfl,d,c⟩))
   refine bodyPost_ret (results_none rfl _ _ _) rfl ?_;rw[b.o];exact⟨rfl,d,((Ex.refl O w).drewN _).t c⟩
  ·have b:Hid (cO T s st=aG T st):=by unfold Hid cO;rw[if_neg (by simp[a]),hb];rfl
   clear a;go_enter func105,ntmps105
   go_wp2_with (first|(go_at_call 102;refine(pG s h).mono ?_;rintro e w' ⟨rfl,n,rfl⟩;rw[hb])|(go_at_call 103;refine(lG (h.drewN _)).mono ?_;rintro e w' ⟨rfl,d,c⟩))
   go_end0
   rw[b.o];exact⟨rfl,d,((Ex.refl O w).drewN _).t c⟩
 ·have t0:(st.a !=0)=true:=by simp[a]
  have b:Hid (cO T s st=st):=if_pos a;clear a;go_enter func105,ntmps105
  go_wp2_with (go_at_call 102;refine(pG s h).mono ?_;rintro e w' ⟨rfl,n,rfl⟩)
  refine bodyPost_ret (results_none rfl _ _ _) rfl ?_;rw[b.o];exact⟨rfl,h.drewN _,(Ex.refl O w).drewN _⟩
theorem yN(s:ByteArray)(h:PW H O U gw cw T st Y vI V w):Calls prog 168 #[Qd O,.string s] w fun e w'=>e= .returned (.tuple #[])/\PW H O U gw cw T (cN T s st) Y vI V w'/\Ex O w w':=by
 obtain⟨_,_,i,_,_,_,b⟩:=h.cells;have g:=b 2;have f:Hid (cN T s st=cO T s {st with op:=wrap64 (st.op - 1)}):=rfl;have a:=h.put (st':={st with op:=wrap64 (st.op - 1)}) ((Ex.refl O w).set 2 (Qc (wrap64 (st.op - 1)))) rfl rfl h.lt (aI _ h.par);clear h b;go_enter func168,ntmps168
 go_wp2_with (go_at_call 105;refine(rM s a.1).mono ?_;rintro e w' ⟨rfl,d,c⟩)
 go_end0
 rw[f.o];exact⟨rfl,d,a.2.t c⟩
theorem yU(s:ByteArray)(h:PW H O U gw cw T st Y vI V w):Calls prog 167 #[Qd O,.string s] w fun e w'=>e= .returned (.tuple #[])/\PW H O U gw cw T (aO T s st) Y vI V w'/\Ex O w w':=by
 obtain⟨p0,t,u,v,x,_,g⟩:=h.cells;obtain⟨_,y,_,_⟩:=h.w4;have l:=h.lt;have r:=h.few;have hi:0<=(st.i:Int)/\(st.i:Int) < (T.length:Int):=Oa
 have p:=g 2;have f3:=g 3;have q:=g 4
 by_cases b:dF T st s=true/\st.a=0/\st.op=10
 ·have k:Hid (aO T s st=cO T s {st with a:=6,e:=(aE T st.i).e,op:=wrap64 (st.op+1)}):=by unfold Hid aO;rw[if_pos b]
  have c:=b.1;have t0:(st.a==0)=true:=by simp[b.2.1]
  have o:(st.op==10)=true:=by simp[b.2.2]
  have d:Hid (PW H O U gw cw T st Y vI V w):=h;clear b g h;go_enter func167,ntmps167
  go_upto_region 2 with(go_at_call 102;refine(pG s d.o).mono ?_;rintro e w' ⟨rfl,n,rfl⟩;rw[c])
  go_region
  all_goals go_wp2_with fail
  have f:=d.o.put (st':={st with a:=6,e:=(aE T st.i).e,op:=wrap64 (st.op+1)}) (((((Ex.refl O w).drewN (n+1)).set 3 (Qc 6)).set 4 (Qc (aE T st.i).e)).set 2 (Qc (wrap64 (st.op+1)))) rfl rfl l (aI _ (aI _ (aI _ d.o.par)));refine(rM s f.1).mono ?_;rintro e w' ⟨rfl,j,i⟩;go_wp2;go_end0
  rw[k.o];exact⟨rfl,j,f.2.t i⟩
 ·have k:Hid (aO T s st=cO T s {st with op:=wrap64 (st.op+1)}):=by unfold Hid aO;rw[if_neg b]
  have d:Hid (PW H O U gw cw T st Y vI V w):=h
  have m:(dF T st s=false)\/(dF T st s=true/\(st.a==0)=false)\/(dF T st s=true/\(st.a==0)=true/\(st.op==10)=false):=by
   cases c:dF T st s
   ·exact .l rfl
   ·by_cases h0:st.a=0
    ·exact .r (.r ⟨rfl,by simp[h0],by simpa using fun e=>b ⟨c,h0,e⟩⟩)
    ·exact .r (.l ⟨rfl,by simp[h0]⟩)
  clear b g h;rcases m with c|⟨c,t0⟩|⟨c,t0,o⟩
  all_goals
   go_enter func167,ntmps167
   go_wp2_with (go_at_call 102;refine(pG s d.o).mono ?_;rintro e w' ⟨rfl,n,rfl⟩;rw[c])
   have f:=d.o.put (st':={st with op:=wrap64 (st.op+1)}) (((Ex.refl O w).drewN n).set 2 (Qc (wrap64 (st.op+1)))) rfl rfl l (aI _ d.o.par);refine(rM s f.1).mono ?_;rintro e w' ⟨rfl,j,i⟩;go_wp2;go_end0
   rw[k.o];exact⟨rfl,j,f.2.t i⟩
end
section
variable {H O U gw cw:Nat} {T:List aU} {st:QS} {Y B vI:Value} {V C:List V3} {w w':World}
structure Off(O U gw:Nat)(Y vI:Value)(V:List V3)(k:Nat):Prop where
 p:k≠O
 g:k≠U
 t:k≠gw
 l:Y.ownBlock≠some k
 i:vI.ownBlock≠some k
 u: ¬uC V k
theorem fC{n d:Nat}{e:TypeId}{v:Value}{f:List Value}(b:w.ownsRow H e d v n f){k:Nat}(a:v.ownBlock=some k):k < w.1.size:=by
 obtain⟨⟨c,g⟩,_⟩:=aW b a
 grind
theorem PW.used_lt(h:PW H O U gw cw T st Y vI V w){k:Nat}(a:uC V k):k < w.1.size:=by
 obtain⟨⟨c,b⟩,_⟩:=h.c.typ a
 grind
theorem PW.fresh(h:PW H O U gw cw T st Y vI V w){k:Nat}(a:w.1.size<=k):Off O U gw Y vI V k:=
 ⟨fun e=>absurd h.lt_pb Oa,fun e=>absurd (Oo h.prog) Oa,fun e=>absurd (fC h.words (k:=gw) rfl) Oa,fun e=>absurd (fC h.nodes e) Oa,fun e=>absurd (fC h.its e) Oa,fun e=>absurd (h.used_lt e) Oa⟩
theorem Off.px{k:Nat}(a:Off O U gw Y vI V k)(b:Px O U Y B V C w w')(c:k < w.1.size):Off O U gw B vI C k:=
 ⟨a.p,a.g,a.t,fun e=>(b.row k e).elim a.l Oa,a.i,fun e=>(b.used k e).elim a.u Oa⟩
theorem PW.other(h:PW H O U gw cw T st Y vI V w){k:Nat}(a:Off O U gw Y vI V k)(b:∀ j,j < w.1.size->j≠k->w'.1[j]?=w.1[j]?):PW H O U gw cw T st Y vI V w':=by
 have c:∀ {n d:Nat} {e:TypeId} {v:Value} {f:List Value},w.ownsRow H e d v n f->v.ownBlock≠some k->w'.ownsRow H e d v n f:=(by grind[aR,fC]);exact⟨c h.words (fun e=>a.t (by grind[Value.ownBlock])),(b O h.lt_pb a.p.symm).t h.par,(b U (Oo h.prog) a.g.symm).t h.prog,c h.nodes a.l,c h.its a.i,h.c.move (fun j g=>b j (h.used_lt g) (fun e=>a.u Qg)),h.lt,h.few,h.ends,h.off⟩
theorem PW.u0(h:PW H O U gw cw T st Y vI V w){k:Nat}(a:Off O U gw Y vI V k)(o:Nat)(v:Value):PW H O U gw cw T st Y vI V (w.setCell ⟨k,o,none⟩ v):=
 h.other a (by grind[Below.heap_setCell])
theorem PW.alloc(h:PW H O U gw cw T st Y vI V w)(o:Obj):PW H O U gw cw T st Y vI V (w.alloc o):=h.same (by grind[Below.heap_alloc])
theorem Px.i0(a:Ex O w w'):Px O U Y Y V V w w':=Px.of_turn ⟨a.os,a.tape,a.output,a.size⟩ a.block
theorem Px.j0(h:Px O U Y B V C w w'){k:Nat}(d:w.1.size<=k)(o:Nat)(v:Value):Px O U Y B V C w (w'.setCell ⟨k,o,none⟩ v):=
 ⟨h.os,h.tape,h.output,Qm h.size Od,fun i hi a b c=>(Om (by show i≠k;omega)).t (h.keep i hi a b c),h.row,h.used⟩
theorem Px.alloc(h:Px O U Y B V C w w')(o:Obj):Px O U Y B V C w (w'.alloc o):=
 ⟨h.os,h.tape,h.output,Qm h.size Od,fun i hi a b c=>(On (Nat.lt_of_lt_of_le hi h.size)).t (h.keep i hi a b c),h.row,h.used⟩
theorem Px.drewN(h:Px O U Y B V C w w')(n:Nat):Px O U Y B V C w (w'.drewN n):=⟨h.os,h.tape,h.output,h.size,h.keep,h.row,h.used⟩
def Aft(H O U gw cw:Nat)(T:List aU)(vI Y:Value)(V:List V3)(w:World)(q:QS)(w':World):Prop:=∃ B C,PW H O U gw cw T q B vI C w'/\Px O U Y B V C w w'
theorem Aft.of{q:QS}(b:PW H O U gw cw T q Y vI V w')(a:Ex O w w'):Aft H O U gw cw T vI Y V w q w':=⟨Y,V,b,Px.i0 a⟩
abbrev aMA:Obj:= Qf #[Qc 0,Qc 0,.string (ByteArray.mk #[]),Qc 0] 220
theorem zG(k:Int)(h:PW H O U gw cw T st Y vI V w):Calls prog 104 #[Qd O,Qc k] w fun e w'=>e= .returned (dC T k st).g/\PW H O U gw cw T (cX T k st) Y vI V w'/\Ex O w w':=by
 obtain⟨p0,u,_,_,_,_,_⟩:=h.cells;obtain⟨x0,_,_,_⟩:=h.w4;have F:=h.lt;have D:=h.few;have G:=h.lt_pb;have E:gw < w.1.size:=Qp w _ x0;have hi:0<=(st.i:Int)/\(st.i:Int) < (T.length:Int):=Oa
 have c:=h.fresh Ol;have s:w.1.size≠O:=Oa
 by_cases b:(aE T st.i).d=k
 ·have t0:((aE T st.i).d !=k)=false:=by simp[b]
  have j:Hid (cX T k st=aG T st):=if_neg (by simp[b]);have h0:Hid (dC T k st=aE T st.i):=if_neg (by simp[b]);have g:Hid (PW H O U gw cw T st Y vI V w):=h;clear b h;go_enter func104,ntmps104
  go_upto_region 1 with fail
  go_quiet (fail)
  go_wp2_with fail
  refine(lG ((g.o.alloc aMA).drewN _)).mono ?_;rintro e l ⟨rfl,i,d⟩;have f:l.1[w.1.size]?=some (Qf #[Qc 0,Qc 0,.string (ByteArray.mk #[]),Qc 0] 220):=(d.block _ Od s).t (Qk w _);obtain⟨y0,m,n,o,a⟩:=bK f;have x:=a 0;have y:=a 1;have z:=a 2;have A:=a 3;generalize aE T st.i=t at*;unfold aU.g;obtain⟨z0,p,q,r⟩:=tV (u0:= Qc t.d) (u1:= Qc t.e) (u2:= .string t.f) (u3:= Qc t.a) y0 m n o;clear p0 u x0 f a;go_wp2;refine bodyPost_ret (v:=t.g) (by simp[results,results104,go_sem,z0,p,q,r,aU.g]) rfl ⟨by rw[h0.o],?_,?_⟩
  ·rw[j.o];exact(((i.u0 c 0 _).u0 c 1 _).u0 c 2 _).u0 c 3 _
  ·exact(((((((Ex.refl O w).alloc aMA).drewN _).t d).j0 Ol 0 _).j0 Ol 1 _).j0 Ol 2 _).j0 Ol 3 _
 ·have t0:((aE T st.i).d !=k)=true:=by simp[b]
  have j:Hid (cX T k st=dW T st):=if_pos b;have h0:Hid (dC T k st=uE):=if_pos b;have g:Hid (PW H O U gw cw T st Y vI V w):=h;clear b h;go_enter func104,ntmps104
  go_upto_region 1 with fail
  go_quiet (fail)
  go_wp2_with fail
  refine(xE ((g.o.alloc aMA).drewN _)).mono ?_;rintro e l ⟨rfl,i,d⟩;have f:l.1[w.1.size]?=some (Qf #[Qc 0,Qc 0,.string (ByteArray.mk #[]),Qc 0] 220):=(d.block _ Od s).t (Qk w _);obtain⟨y0,m,n,o,a⟩:=bK f;have x:=a 0;have y:=a 1;have z:=a 2;have A:=a 3;obtain⟨z0,p,q,r⟩:=tV (u0:= Qc 0) (u1:= Qc 0) (u2:= .string (ByteArray.mk #[])) (u3:= Qc 0) y0 m n o;clear p0 u x0 f a;go_wp2;refine bodyPost_ret (v:=uE.g) (by simp[results,results104,go_sem,z0,p,q,r,uE,aU.g]) rfl ⟨by rw[h0.o],?_,?_⟩
  ·rw[j.o];exact(((i.u0 c 0 _).u0 c 1 _).u0 c 2 _).u0 c 3 _
  ·exact(((((((Ex.refl O w).alloc aMA).drewN _).t d).j0 Ol 0 _).j0 Ol 1 _).j0 Ol 2 _).j0 Ol 3 _
end
section
variable {H O U gw cw:Nat} {T:List aU} {st:QS} {Y B vI:Value} {V C:List V3} {w w':World}
theorem info73:(prog.info? 73).map (fun i=>(i.zero,i.size,i.bytes))=some (some (.agg #[Qc 0,Qc 0,.string (ByteArray.mk #[]),Qc 0,Qc 0,.slice none 0 0,.slice none 0 0,.slice none 0 0,Qc 0,Qc 0,Qc 0]),11,144):=by kernel_rfl
def NdA(a:NQ)(v:V3):Value:= .agg #[Qc a.d,Qc a.at_,.string a.s,Qc a.n,Qc a.mid,v.1,v.2.1,v.2.2,Qc a.b,Qc a.ref,Qc a.f]
theorem cV{n d:Nat}{e t:TypeId}{v:Value}{f:List Value}(b:w.ownsRow H e d v n f){k:Nat}{cs:Array Value}(h:w.1[k]?=some (.cells cs t (0,0)))(i:e≠t):v.ownBlock≠some k:=fun a=>by
 obtain⟨⟨c,g⟩,_⟩:=aW b a
 grind
theorem PW.t0(h:PW H O U gw cw T st Y vI V w):H<=w.1.size:=by
 obtain⟨_,a⟩:=aW h.words (k:=gw) rfl
 grind
theorem aGL{n b:Nat}{e:TypeId}{v:Value}{c:List Value}(a:w.ownsRow H e b v n c):v.oneCell'=true:=by
 rcases a.2 with⟨rfl,_⟩|⟨_,_,_,rfl,_⟩<;>rfl
theorem PW.pushed(h:PW H O U gw cw T st Y vI V w){a:NQ}{v:V3}{w1 w2:World}{g J:Nat}(q:uA H w a v)(Q:∀ k,vI.ownBlock=some k->¬iX v k)(l:Ex O w w1)(L:∀ k,k < w.1.size->w1.1[k]?=w.1[k]?)(P:w2.ownsRow H 73 11 (Qe g (st.L.length+1) J) (st.L.length+1) (mM st.L V++NdV {a with f:=-1} v))(d:w1.grownBy w2 Y.ownBlock)(G:Y.ownBlock=some g\/g=w1.1.size):
 PW H O U gw cw T (cQ a st) (Qe g (st.L.length+1) J) vI (V++[v]) (w2.setCell ⟨U,0,none⟩ (Qe g (st.L.length+1) J))/\Px O U Y (Qe g (st.L.length+1) J) V V w (w2.setCell ⟨U,0,none⟩ (Qe g (st.L.length+1) J)):=by
 have F:U < w.1.size:=(Oo h.prog);have R:=l.size;have old:∀ k,k < w.1.size->Y.ownBlock≠some k->w2.1[k]?=w.1[k]?:=fun k p N=>(d.block k Oa Qg).t Qh;have n:∀ k,k < w.1.size->Y.ownBlock≠some k->k≠U->∀ u,(w2.setCell ⟨U,0,none⟩ u).1[k]?=w.1[k]?:=(by grind[Below.heap_setCell])
 have i:∀ {s t:Nat} {e:TypeId} {x:Value} {y:List Value},w.ownsRow H e t x s y->e≠73->e≠76->∀ u,(w2.setCell ⟨U,0,none⟩ u).ownsRow H e t x s y:=fun r K z u=>aR r (fun m o=>by
  obtain⟨⟨c,b⟩,_⟩:=aW r o;exact n m Qg (cV h.nodes b Qg) (bR b h.prog z) u)
 have D:∀ u,kZ H (w2.setCell ⟨U,0,none⟩ u) st.L V:=fun u=>h.c.move (fun m o=>by
  obtain⟨⟨c,b⟩,_⟩:=h.c.typ o;rcases b with b|b
  ·exact n m Qg (cV h.nodes b Ob) (bR b h.prog Ob) u
  ·exact n m Qg (cV h.nodes b Ob) (bR b h.prog Ob) u)
 have A:∀ u,uA H (w2.setCell ⟨U,0,none⟩ u) {a with f:=-1} v:=fun u=>⟨i q.k Ob Ob u,i q.p Ob Ob u,i q.h Ob Ob u⟩;have h0:=n O h.lt_pb (cV h.nodes h.par Ob) (bR h.par h.prog Ob)
 have M:g≠U:=by
  rcases G with e|e
  ·exact fun I=>cV h.nodes h.prog Ob Qh
  ·omega
 refine⟨⟨i h.words Ob Ob _,(h0 _).t h.par,aI _ ((old U F (cV h.nodes h.prog Ob)).t h.prog),?_,i h.its Ob Ob _,kZ.snoc (D _) (A _),h.lt,h.few,h.ends,fun k p=>?_⟩,⟨d.os.t l.os,d.tape.t l.tape,d.output.t l.output,?_,Qg,fun k p=>?_,Qg⟩⟩
 ·show(w2.setCell _ _).ownsRow H 73 11 _ (st.L++[_]).length (mM (st.L++[_]) (V++[v]));rw[mM.snoc h.c.len,List.length_append]
  grind[Value.ownBlock,aR,Below.heap_setCell]
 ·rintro⟨u,j,E⟩;rcases List.mem_append.1 j with j|j
  ·exact h.off k p ⟨u,j,E⟩
  grind
 ·have:=d.size
  grind[World.setCell]
 grind[Value.ownBlock]
abbrev ndC(a:NQ)(v:V3):Array Value:=#[Qc a.d,Qc a.at_,.string a.s,Qc a.n,Qc a.mid,v.1,v.2.1,v.2.2,Qc a.b,Qc a.ref,Qc a.f]
theorem tZ(a:NQ)(v:V3)(h:PW H O U gw cw T st Y vI V w)(c:uA H w a v)(j:∀ k,vI.ownBlock=some k->¬iX v k)(hn:st.L.length<=200000):
 Calls prog 106 #[Qd O,NdA a v] w fun e w'=>e= .returned (Qc st.L.length)/\∃ B,PW H O U gw cw T (cQ a st) B vI (V++[v]) w'/\Px O U Y B V V w w':=by
 obtain⟨i0,K,I,G,F⟩:=info_parts info73;have R:U < w.1.size:=(Oo h.prog);have a2:=h.lt_pb;have a3:=h.t0;have a4:IntKind.i64.wrap ((st.L.length:Int)+1)=(st.L.length:Int)+1:=IntWalk.i64_in _ Oa;have a5:IntKind.i64.wrap ((st.L.length:Int)+1 - 1)=(st.L.length:Int):=by rw[Int.add_sub_cancel];exact IntWalk.i64_in _ Oa
 obtain⟨W,b⟩:∃ W,W=(w.alloc (Qf #[Qc a.d,Qc a.at_,.string a.s,Qc a.n,Qc a.mid,v.1,v.2.1,v.2.2,Qc a.b,Qc a.ref,Qc (-1)] 73)):=⟨_,rfl⟩;have d:PW H O U gw cw T st Y vI V W:=b ▸ h.alloc _;have h0:W.1[w.1.size]?=some (.cells (ndC {a with f:=-1} v) 73 (0,0)):=b ▸ Qk w _;have l:Ex O w W:=b ▸ (Ex.refl O w).alloc _;have m:∀ k,k < w.1.size->W.1[k]?=w.1[k]?:=fun k o=>b ▸ On o;have n:W.1.size=w.1.size+1:=by rw[b];simp
 obtain⟨_,_,_,_,_,M,_⟩:=d.cells;have g0:W.cell? ⟨U,0,none⟩=some Y:=Og d.prog rfl
 have y:W.frozen? ⟨U,0,none⟩=false:=by simp[World.frozen?,d.prog]
 have z:w.frozen? ⟨U,0,none⟩=false:=by simp[World.frozen?,h.prog]
 have n0:W.cell? ⟨w.1.size,0,none⟩=some (Qc a.d):=cell_of_row _ _ _ _ _ _ h0;have n1:W.cell? ⟨w.1.size,1,none⟩=some (Qc a.at_):=cell_of_row _ _ _ _ _ _ h0;have n2:W.cell? ⟨w.1.size,2,none⟩=some (.string a.s):=cell_of_row _ _ _ _ _ _ h0;have n3:W.cell? ⟨w.1.size,3,none⟩=some (Qc a.n):=cell_of_row _ _ _ _ _ _ h0;have n4:W.cell? ⟨w.1.size,4,none⟩=some (Qc a.mid):=cell_of_row _ _ _ _ _ _ h0;have n5:W.cell? ⟨w.1.size,5,none⟩=some v.1:=cell_of_row _ _ _ _ _ _ h0;have n6:W.cell? ⟨w.1.size,6,none⟩=some v.2.1:=cell_of_row _ _ _ _ _ _ h0;have n7:W.cell? ⟨w.1.size,7,none⟩=some v.2.2:=cell_of_row _ _ _ _ _ _ h0;have n8:W.cell? ⟨w.1.size,8,none⟩=some (Qc a.b):=cell_of_row _ _ _ _ _ _ h0;have n9:W.cell? ⟨w.1.size,9,none⟩=some (Qc a.ref):=cell_of_row _ _ _ _ _ _ h0;have a6:W.cell? ⟨w.1.size,10,none⟩=some (Qc (-1)):=cell_of_row _ _ _ _ _ _ h0;have i:U < W.1.size:=Oa
 have q:O < W.1.size:=Oa
 have X:w.1.size < W.1.size:=Oa
 have Q:H<=W.1.size:=Oa
 have J:(W.alloc (.cells (ndC {a with f:=-1} v) 73)).drew.1[w.1.size+1]?=some (.cells (ndC {a with f:=-1} v) 73 (0,0)):=n ▸ Qk W _;have k0:=d.nodes;have p:some U≠Y.ownBlock:=fun e=>cV h.nodes h.prog Ob e.symm;have x:some O≠Y.ownBlock:=fun e=>cV h.nodes h.par Ob e.symm
 have E:∀ u∈NdV {a with f:=-1} v,u.oneCell'=true:=by
  intro u r;simp only[NdV,List.mem_cons,List.not_mem_nil,or_false]at r;rcases r with rfl|rfl|rfl|rfl|rfl|rfl|rfl|rfl|rfl|rfl|rfl
  all_goals first|rfl|exact aGL c.k|exact aGL c.p|exact aGL c.h
 have D:Hid (PW H O U gw cw T st Y vI V w/\uA H w a v/\(∀ k,vI.ownBlock=some k->¬iX v k)/\Ex O w W/\(∀ k,k < w.1.size->W.1[k]?=w.1[k]?)):=⟨h,c,j,l,m⟩;have S:U≠O:=bR h.prog h.par Ob;clear h c j l m d h0;have s:Hid (W=(w.alloc (Qf #[Qc a.d,Qc a.at_,.string a.s,Qc a.n,Qc a.mid,v.1,v.2.1,v.2.2,Qc a.b,Qc a.ref,Qc (-1)] 73))):=b;clear b;unfold NdA;go_enter func106,ntmps106
 go_upto_region 2 with fail
 rw[<-s.o];clear s z
 go_region_law
  ((refine step_append_lies _ (by rfl) _ _ _ (by rfl) H 73 i0 _ 11 144 underlying74 K I G F rfl Oa Y st.L.length (mM st.L V) (by rfl) ((k0.alloc _).drew)
     ⟨w.1.size+1,0,none⟩ 1 1 (NdV {a with f:=-1} v) (by rfl) (by rfl) (World.news_of_block (cs:=ndC {a with f:=-1} v) (t:=73) (fr:=(0,0)) J) E
     Oa (by unfold maxLen;omega) Oa (by simp;omega) (w.1.size+1+1) (by simp[n]) ?_;intro P N w1 A g L Z;have q1:=(g.cell_far ⟨O,5,none⟩ (gK q) x).t (lT q M);have q2:=(g.cell_far ⟨U,0,none⟩ (gK i) p).t (lT i g0);have q3:=(g.frozen_far ⟨U,0,none⟩ (gK i) p).t (rO i y)))
 all_goals go_wp2
 all_goals go_ret
 all_goals
  obtain⟨h,c,j,l,m⟩:=D.o;exact⟨rfl,_,h.pushed c j (l.alloc _).drew (fun k o=>(On Oa).t (m k o)) A g (L.imp id (fun e=>e.t (by simp[World.drew,n])))⟩
end
section
variable {H O U gw cw:Nat} {T:List aU} {st:QS} {Y B vI:Value} {V C:List V3} {w w':World}
def aDW:ByteArray:=⟨#[60,32,60,61,32,62,32,62,61,32,61,61,32,33,61]⟩
def kO(T:List aU)(st:QS):QS:=if qM T st aDW=true/\st.a=0 then aG T st else dW T st
def rE(T:List aU)(st:QS):ByteArray:=if qM T st aDW=true/\st.a=0 then(aE T st.i).f else⟨#[]⟩
theorem aAG(h:PW H O U gw cw T st Y vI V w):Calls prog 170 #[Qd O] w fun e w'=>e= .returned (.string (rE T st))/\PW H O U gw cw T (kO T st) Y vI V w'/\Ex O w w':=by
 obtain⟨_,_,_,m,_,_,_⟩:=h.cells;have l:ByteArray.mk #[60,32,60,61,32,62,32,62,61,32,61,61,32,33,61]=aDW:=rfl;have i:aDW.size<=1000:=Ob
 by_cases a:qM T st aDW=true/\st.a=0
 ·have g:Hid (kO T st=aG T st):=if_pos a;have h0:Hid (rE T st=(aE T st.i).f):=if_pos a;have b:=a.1;have t0:(st.a !=0)=false:=by simp[a.2]
  have c:Hid (PW H O U gw cw T st Y vI V w):=h;clear a h;go_enter func170,ntmps170
  go_wp2_with (go_at_call 230;refine(aJN aDW i c.o).mono ?_;rintro e w' ⟨rfl,n,rfl⟩;rw[b])
  refine(lG (c.o.drewN _)).mono ?_;rintro e k ⟨rfl,f,d⟩;unfold aU.g;go_wp2;go_ret;rw[g.o,h0.o];exact⟨rfl,f.alloc _,(((Ex.refl O w).drewN _).t d).alloc _⟩
 ·have g:Hid (kO T st=dW T st):=if_neg a;have h0:Hid (rE T st=⟨#[]⟩):=if_neg a;have c:Hid (PW H O U gw cw T st Y vI V w):=h
  have j:qM T st aDW=false\/(qM T st aDW=true/\(st.a !=0)=true):=by
   cases b:qM T st aDW
   ·exact .l rfl
   ·exact .r ⟨rfl,by simpa using fun e=>a ⟨b,e⟩⟩
  clear a h;rcases j with b|⟨b,t0⟩
  all_goals
   go_enter func170,ntmps170
   go_wp2_with (go_at_call 230;refine(aJN aDW i c.o).mono ?_;rintro e w' ⟨rfl,n,rfl⟩;rw[b])
   refine(xE (c.o.drewN _)).mono ?_;rintro e k ⟨rfl,f,d⟩;go_wp2;go_ret;rw[g.o,h0.o];exact⟨rfl,f,((Ex.refl O w).drewN _).t d⟩
end
section
variable {H O U gw cw:Nat} {T:List aU} {st:QS} {Y B vI:Value} {V C:List V3} {w w':World}
def v0:V3:=(.slice none 0 0,.slice none 0 0,.slice none 0 0)
theorem wU(k:Nat): ¬iX v0 k:=by rintro(h|h|h)<;>simp[v0,Value.ownBlock]at h
theorem uA.none{a:NQ}(b:a.c=[])(c:a.g=[])(d:a.e=[]):uA H w a v0:=by
 refine⟨?_,?_,?_⟩
 ·rw[b];exact⟨rfl,.l Qj⟩
 ·rw[c];exact⟨rfl,.l Qj⟩
 ·rw[d];exact⟨rfl,.l Qj⟩
theorem Px.more(a:Px O U Y B V C w w'){v:V3}(d:∀ k,iX v k->w.1.size<=k):Px O U Y B V (C++[v]) w w':=
 ⟨a.os,a.tape,a.output,a.size,a.keep,a.row,fun k ⟨u,b,c⟩=>by
   rcases List.mem_append.1 b with b|b
   ·exact a.used k ⟨u,b,c⟩
   grind⟩
theorem tR:(dW T st).L=st.L:=by grind[dW]
theorem aV:(aG T st).L=st.L:=by grind[aG]
theorem kP(k:Int):(cX T k st).L=st.L:=by grind[cX,tR,aV]
def fL:ByteArray:=⟨#[45]⟩
def jH(T:List aU)(st:QS):QS:=
 if dF T st fL=true then cQ {d:=3,at_:=(aE T st.i).e,n:=wrap64 (-(dC T 2 (aG T st)).a)} (cX T 2 (aG T st))
 else if(aE T st.i).d=2 then cQ {d:=3,at_:=(aE T st.i).e,n:=(aE T st.i).a} (aG T st)
 else cQ {d:=4,at_:=(aE T st.i).e,s:=(dC T 1 st).f} (cX T 1 st)
theorem aU1(h:PW H O U gw cw T st Y vI V w)(q:st.L.length<=200000):Calls prog 169 #[Qd O] w fun e w'=>e= .returned (Qc st.L.length)/\Aft H O U gw cw T vI Y V w (jH T st) w':=by
 obtain⟨p0,z,_,_,_,_,_⟩:=h.cells;obtain⟨x0,D,_,_⟩:=h.w4;have y:=h.lt;have x:=h.few;have hi:0<=(st.i:Int)/\(st.i:Int) < (T.length:Int):=Oa
 have b:Hid (PW H O U gw cw T st Y vI V w):=h;cases hb:dF T st fL
 ·by_cases a:(aE T st.i).d=2
  ·have t0:((aE T st.i).d==2)=true:=by simp[a]
   have o:Hid (jH T st=cQ {d:=3,at_:=(aE T st.i).e,n:=(aE T st.i).a} (aG T st)):=by unfold Hid jH;rw[hb,if_neg Od,if_pos a]
   clear a h;go_enter func169,ntmps169
   go_upto_region 1 with fail
   go_quiet (fail)
   go_upto_region 7 with(go_at_call 102;refine(pG fL (b.o.drewN _)).mono ?_;rintro e w' ⟨rfl,n,rfl⟩;rw[hb])
   go_quiet (fail)
   go_wp2_with fail
   refine(lG (b.o.drewN _)).mono ?_;rintro e r ⟨rfl,m,l⟩;have i:=((Ex.refl O w).drewN _).t l;unfold aU.g;have j:(aG T st).L=st.L:=aV;generalize aE T st.i=t at*;have f:=m.alloc (Qf #[Qc t.d,Qc t.e,.string t.f,Qc t.a] 220);have g:=i.alloc (Qf #[Qc t.d,Qc t.e,.string t.f,Qc t.a] 220);go_wp2_with fail
   refine(tZ {d:=3,at_:=t.e,n:=t.a} v0 f (uA.none rfl rfl rfl) (fun k _=>wU k) (j ▸ q)).mono ?_;rintro e w4 ⟨rfl,p,c,h0⟩;go_wp2;go_ret;rw[o.o];exact⟨rfl,p,_,c,((Px.i0 g).t h0).more (fun k a=>absurd a (wU k))⟩
  ·have t0:((aE T st.i).d==2)=false:=by simp[a]
   have o:Hid (jH T st=cQ {d:=4,at_:=(aE T st.i).e,s:=(dC T 1 st).f} (cX T 1 st)):=by unfold Hid jH;rw[hb,if_neg Od,if_neg a]
   clear a h;go_enter func169,ntmps169
   go_upto_region 1 with fail
   go_quiet (fail)
   go_upto_region 7 with(go_at_call 102;refine(pG fL (b.o.drewN _)).mono ?_;rintro e w' ⟨rfl,n,rfl⟩;rw[hb])
   go_quiet (fail)
   go_wp2_with fail
   refine(zG 1 (b.o.drewN _)).mono ?_;rintro e r ⟨rfl,m,l⟩;have i:=((Ex.refl O w).drewN _).t l;unfold aU.g;have j:(cX T 1 st).L=st.L:=kP 1;generalize dC T 1 st=t at*;have f:=m.alloc (Qf #[Qc t.d,Qc t.e,.string t.f,Qc t.a] 220);have g:=i.alloc (Qf #[Qc t.d,Qc t.e,.string t.f,Qc t.a] 220);go_wp2_with fail
   refine(tZ {d:=4,at_:=(aE T st.i).e,s:=t.f} v0 f (uA.none rfl rfl rfl) (fun k _=>wU k) (j ▸ q)).mono ?_;rintro e w4 ⟨rfl,p,c,h0⟩;go_wp2;go_ret;rw[o.o];exact⟨rfl,p,_,c,((Px.i0 g).t h0).more (fun k a=>absurd a (wU k))⟩
 ·have o:Hid (jH T st=cQ {d:=3,at_:=(aE T st.i).e,n:=wrap64 (-(dC T 2 (aG T st)).a)} (cX T 2 (aG T st))):=by unfold Hid jH;rw[hb,if_pos rfl]
  clear h;go_enter func169,ntmps169
  go_upto_region 1 with fail
  go_quiet (fail)
  go_wp2_with (go_at_call 102;refine(pG fL (b.o.drewN _)).mono ?_;rintro e w' ⟨rfl,n,rfl⟩;rw[hb])
  refine(lG (b.o.drewN _)).mono ?_;rintro e A ⟨rfl,u,v⟩;go_wp2_with fail
  refine(zG 2 u).mono ?_;rintro e r ⟨rfl,m,l⟩;have i:=(((Ex.refl O w).drewN _).t v).t l;unfold aU.g;have j:(cX T 2 (aG T st)).L=st.L:=(kP 2).t aV;generalize dC T 2 (aG T st)=t at*;have f:=m.alloc (Qf #[Qc t.d,Qc t.e,.string t.f,Qc t.a] 220);have g:=i.alloc (Qf #[Qc t.d,Qc t.e,.string t.f,Qc t.a] 220);go_wp2_with fail
  refine(tZ {d:=3,at_:=(aE T st.i).e,n:=wrap64 (-t.a)} v0 f (uA.none rfl rfl rfl) (fun k _=>wU k) (j ▸ q)).mono ?_;rintro e w4 ⟨rfl,p,c,h0⟩;go_wp2;go_ret;rw[o.o];exact⟨rfl,p,_,c,((Px.i0 g).t h0).more (fun k a=>absurd a (wU k))⟩
end
section
variable {T:List aU} {st a b c:QS} {m n:Nat}
structure Gr(st st':QS)(n:Nat):Prop where
 i:st.i<=st'.i
 stick:st.a≠0->st'.a=st.a/\st'.e=st.e
 room:st'.L.length+8*st.i<=st.L.length+8*st'.i+n
 c:st'.c=st.c
 pre:st.L <+:st'.L
 neg:(∀ a∈st.L,a.f < 0)->∀ a∈st'.L,a.f < 0
theorem Gr.refl(st:QS):Gr st st 0:=⟨Ql _,fun _=>⟨rfl,rfl⟩,Ql _,rfl,List.prefix_refl _,fun h=>h⟩
theorem Gr.t(h:Gr a b m)(k:Gr b c n):Gr a c (m+n):=
 ⟨Qm h.i k.i,fun f=>by
   obtain⟨d,g⟩:=h.stick f;obtain⟨i,j⟩:=k.stick (by rw[d];exact f);exact⟨i.t d,j.t g⟩,Qb h.room k.room,k.c.t h.c,h.pre.trans k.pre,fun e=>k.neg (h.neg e)⟩
theorem Gr.le(h:Gr a b m)(d:m<=n):Gr a b n:=⟨h.i,h.stick,Qm h.room Oa,h.c,h.pre,h.neg⟩
theorem Gr.e0(T:List aU)(st:QS):Gr st (dW T st) 0:=by
 unfold dW
 split
 ·exact⟨Ql _,fun d=>absurd ‹_› d,Ql _,rfl,List.prefix_refl _,fun h=>h⟩
 ·exact Gr.refl st
theorem Gr.bz(T:List aU)(st:QS):Gr st (aG T st) 0:=by
 unfold aG
 split
 ·exact⟨Nat.le_succ _,fun _=>⟨rfl,rfl⟩,by show st.L.length+8*st.i<=st.L.length+8*(st.i+1)+0;omega,rfl,List.prefix_refl _,fun h=>h⟩
 ·exact Gr.refl st
theorem Gr.must(T:List aU)(s:ByteArray)(st:QS):Gr st (cO T s st) 0:=by
 unfold cO
 split
 ·exact Gr.refl st
 ·split
  ·exact Gr.bz T st
  ·exact Gr.e0 T st
theorem Gr.opn(T:List aU)(s:ByteArray)(st:QS):Gr st (aO T s st) 0:=by
 unfold aO;refine(Gr.t (m:=0) ?_ (Gr.must T s _)).le Ol
 split
 ·exact⟨Ql _,fun d=>absurd (by assumption:_/\st.a=0/\_).2.1 d,Ql _,rfl,List.prefix_refl _,fun h=>h⟩
 ·exact⟨Ql _,fun _=>⟨rfl,rfl⟩,Ql _,rfl,List.prefix_refl _,fun h=>h⟩
theorem Gr.h0(T:List aU)(s:ByteArray)(st:QS):Gr st (cN T s st) 0:=
 (Gr.t (a:=st) (b:={st with op:=wrap64 (st.op - 1)}) (m:=0) ⟨Ql _,fun _=>⟨rfl,rfl⟩,Ql _,rfl,List.prefix_refl _,fun h=>h⟩ (Gr.must T s _)).le Ol
theorem Gr.knd(T:List aU)(k:Int)(st:QS):Gr st (cX T k st) 0:=by
 unfold cX
 split
 ·exact Gr.e0 T st
 ·exact Gr.bz T st
theorem aWU(x:NQ)(st:QS)(e:∀ a∈st.L,a.f < 0):∀ a∈(cQ x st).L,a.f < 0:=fun a d=>by
 rcases List.mem_append.1 d with h|h
 ·exact e a h
 ·rw[List.mem_singleton.1 h];show(-1:Int) < 0
  decide
theorem Gr.add(x:NQ)(st:QS):Gr st (cQ x st) 1:=⟨Ql _,fun _=>⟨rfl,rfl⟩,by simp[cQ];omega,rfl,List.prefix_append _ _,aWU _ _⟩
theorem Gr.comp(T:List aU)(st:QS):Gr st (kO T st) 0:=by
 unfold kO
 split
 ·exact Gr.bz T st
 ·exact Gr.e0 T st
theorem jX(T:List aU)(st:QS)(h:(aE T st.i).d≠0):(aG T st).i=st.i+1:=by unfold aG;rw[if_pos h]
theorem pK{s:ByteArray}(h:dF T st s=true):(aE T st.i).d≠0:=by
 unfold dF at h;simp only[Bool.and_eq_true,decide_eq_true_eq]at h;omega
theorem aAJ{s:ByteArray}(h:qM T st s=true):(aE T st.i).d≠0:=by
 unfold qM at h;simp only[Bool.and_eq_true,decide_eq_true_eq]at h;omega
theorem Gr.paid(h:Gr a b n)(hi:a.i+1<=b.i)(k:Gr b c m)(e:n+m<=8)(d:b.L=a.L):Gr a c 0:=
 ⟨Qm h.i k.i,(h.t k).stick,by have:=k.room;rw[d]at this;omega,(h.t k).c,(h.t k).pre,(h.t k).neg⟩
def aEK:ByteArray:=⟨#[43,32,45]⟩
def aBR:ByteArray:=⟨#[42,32,47,32,37]⟩
def cR:ByteArray:=⟨#[40]⟩
def fR:ByteArray:=⟨#[41]⟩
def qD:ByteArray:=⟨#[91]⟩
def tI:ByteArray:=⟨#[93]⟩
def xY:ByteArray:=⟨#[44]⟩
def nK(T:List aU)(P:QS->QS × Int)(Z:ByteArray):Nat->Int->QS->QS × Int
 |0,x,st=>(st,x)
 |k+1,x,st=>if qM T st Z=true/\st.a=0 then
   nK T P Z k (P (aG T st)).1.L.length (cQ {d:=8,at_:=(aE T st.i).e,s:=(aE T st.i).f,c:=[x,(P (aG T st)).2]} (P (aG T st)).1)
  else(st,x)
def mZ(T:List aU)(P:QS->QS × Int)(Z:ByteArray)(st:QS):QS × Int:=nK T P Z T.length (P st).2 (P st).1
def qex(T:List aU)(F:QS->QS × Int)(st:QS):QS × Int:=if st.a≠0 then(st,0)else mZ T (mZ T F aBR) aEK st
def eO(T:List aU)(E:QS->QS × Int):Nat->Bool->List Int->QS->QS × List Int
 |0,_,l,st=>(st,l)
 |k+1,more,l,st=>if more=true/\st.a=0 then
   eO T E k (dF T (E st).1 xY) (l++[(E st).2]) (if dF T (E st).1 xY=true then aG T (E st).1 else(E st).1)
  else(st,l)
def wM(T:List aU)(E:QS->QS × Int)(t:aU)(st:QS):QS × Int:=
 if dF T st qD=true then
  let e:=E (aO T qD st)
  (cQ {d:=5,at_:=t.e,s:=t.f,c:=[e.2]} (cN T tI e.1),e.1.L.length)
 else if dF T st cR=true then
  let r:=eO T E T.length (!dF T (aO T cR st) fR) [] (aO T cR st)
  (cQ {d:=6,at_:=t.e,s:=t.f,c:=r.2} (cN T fR r.1),r.1.L.length)
 else(cQ {d:=4,at_:=t.e,s:=t.f} st,st.L.length)
def vT(T:List aU)(E F:QS->QS × Int)(st:QS):QS × Int:=
 if st.a≠0 then(st,0)
 else if(aE T st.i).d=2 then(cQ {d:=3,at_:=(aE T st.i).e,n:=(aE T st.i).a} (aG T st),st.L.length)
 else if(aE T st.i).d=1 then wM T E (aE T st.i) (aG T st)
 else if dF T st cR=true then
  let e:=E (aO T cR st)
  (cN T fR e.1,e.2)
 else if dF T st fL=true then
  let e:=F (aO T fL st)
  (cQ {d:=7,at_:=(aE T st.i).e,c:=[e.2]} {e.1 with op:=wrap64 (e.1.op - 1)},e.1.L.length)
 else(dW T st,0)
def zV(T:List aU):Nat->(QS->QS × Int) × (QS->QS × Int)
 |0=>(fun st=>(st,0),fun st=>(st,0))
 |n+1=>(qex T (vT T (zV T n).1 (zV T n).2),vT T (zV T n).1 (zV T n).2)
theorem Gr.spend(h:Gr a b n)(e:n<=8)(k:Gr b c 0)(hi:b.i+1<=c.i)(d:c.L=b.L):Gr a c 0:=
 ⟨Qm h.i k.i,(h.t k).stick,by have:=h.room;rw[d];omega,(h.t k).c,(h.t k).pre,(h.t k).neg⟩
def oG(P:QS->QS × Int):Prop:=∀ st,Gr st (P st).1 1
def aNN(P:QS->QS × Int):Prop:=∀ st,st.a≠0->P st=(st,0)
theorem oG.loop{P:QS->QS × Int}(g:oG P)(Z:ByteArray):∀ (k:Nat) (x:Int) (st:QS),Gr st (nK T P Z k x st).1 0:=by
 intro k
 induction k with
 |zero=>exact fun _ st=>Gr.refl st
 |succ k ih=>
  intro x st;unfold nK
  split
  ·rename_i hy;have e:=Gr.bz T st;have f:=(g (aG T st)).t (Gr.add {d:=8,at_:=(aE T st.i).e,s:=(aE T st.i).f,c:=[x,(P (aG T st)).2]} _);exact((e.paid (Nat.le_of_eq (jX T st (aAJ hy.1)).symm) f Oa aV).t (ih _ _)).le Oa
  ·exact Gr.refl st
theorem oG.chain{P:QS->QS × Int}(d:oG P)(Z:ByteArray):oG (mZ T P Z):=fun st=>((d st).t (d.loop Z _ _ _)).le Ol
theorem oG.ex{F:QS->QS × Int}(d:oG F):oG (qex T F):=fun st=>by
 unfold qex
 split
 ·exact(Gr.refl st).le Oa
 ·exact(d.chain aBR).chain aEK st
theorem oG.args{E:QS->QS × Int}(d:oG E):∀ (k:Nat) (more:Bool) (l:List Int) (st:QS),Gr st (eO T E k more l st).1 1:=by
 intro k
 induction k with
 |zero=>exact fun _ _ st=>(Gr.refl st).le Oa
 |succ k ih=>
  intro more l st;unfold eO
  split
  ·cases hb:dF T (E st).1 xY
   ·rw[if_neg Od];have:(eO T E k false (l++[(E st).2]) (E st).1).1=(E st).1:=by cases k<;>simp[eO]
    rw[this];exact d st
   ·rw[if_pos rfl];exact(((d st).spend Oa (Gr.bz T _) (Nat.le_of_eq (jX T _ (pK hb)).symm) aV).t (ih _ _ _)).le Oa
  ·exact(Gr.refl st).le Oa
theorem oG.beh{E:QS->QS × Int}(d:oG E)(t:aU)(st:QS):Gr st (wM T E t st).1 2:=by
 unfold wM
 split
 ·exact(((Gr.opn T qD st).t (d _)).t ((Gr.h0 T tI _).t (Gr.add _ _))).le Oa
 ·split
  ·exact(((Gr.opn T cR st).t (d.args _ _ _ _)).t ((Gr.h0 T fR _).t (Gr.add _ _))).le Oa
  ·exact(Gr.add _ _).le Oa
theorem aYA{s:ByteArray}(d:dF T st s=true)(e:st.a=0):(cO T s st).i=st.i+1:=by
 unfold cO;rw[if_neg (by simp[e]),if_pos d];exact jX T st (pK d)
theorem aKX{s:ByteArray}(e:dF T st s=true):(aO T s st).a≠0\/((aO T s st).i=st.i+1/\(aO T s st).L=st.L):=by
 by_cases h0:(aO T s st).a=0
 ·right;unfold aO at h0 ⊢
  split at h0
  ·exfalso
   revert h0
   unfold cO;rw[if_pos Od];simp
  ·rename_i hd;rw[if_neg hd]
   have d:({st with op:=wrap64 (st.op+1)}:QS).a=0:=by
    by_cases d:({st with op:=wrap64 (st.op+1)}:QS).a=0
    ·exact d
    ·have:=((Gr.must T s {st with op:=wrap64 (st.op+1)}).stick d).1;rw[h0]at this;exact this.symm
   refine⟨aYA e d,?_⟩;unfold cO;rw[if_neg (by simpa using d)]
   split
   ·exact aV
   ·exact tR
 ·exact .l h0
theorem oG.fac{E F:QS->QS × Int}(e:oG E)(g:oG F)(j:aNN F):oG (vT T E F):=fun st=>by
 unfold vT
 split
 ·exact(Gr.refl st).le Oa
 split
 ·rename_i hk;exact((Gr.bz T st).paid (Nat.le_of_eq (jX T st Oa).symm) (Gr.add _ _) Oa aV).le Oa
 split
 ·rename_i hk;exact((Gr.bz T st).paid (Nat.le_of_eq (jX T st Oa).symm) (e.beh _ _) Oa aV).le Oa
 split
 ·exact(((Gr.opn T cR st).t (e _)).t (Gr.h0 T fR _)).le Oa
 split
 ·rename_i hb;have f:∀ x:QS × Int,Gr x.1 (cQ {d:=7,at_:=(aE T st.i).e,c:=[x.2]} {x.1 with op:=wrap64 (x.1.op - 1)}) 1:=fun x=>⟨Ql _,fun _=>⟨rfl,rfl⟩,by simp[cQ];omega,rfl,List.prefix_append _ _,aWU _ _⟩;rcases aKX hb with i|⟨hi,h⟩
  ·have:=f (F (aO T fL st));rw[j _ i]at this ⊢;exact((Gr.opn T fL st).t this).le Oa
  ·exact((Gr.opn T fL st).paid (Nat.le_of_eq hi.symm) ((g _).t (f _)) Oa h).le Oa
 ·exact(Gr.e0 T st).le Oa
theorem iL(T:List aU)(n:Nat):(oG (zV T n).1/\oG (zV T n).2)/\aNN (zV T n).1/\aNN (zV T n).2:=by
 induction n with
 |zero=>exact⟨⟨fun st=>(Gr.refl st).le Oa,fun st=>(Gr.refl st).le Oa⟩,fun _ _=>rfl,fun _ _=>rfl⟩
 |succ n ih=>exact⟨⟨(ih.1.1.fac ih.1.2 ih.2.2).ex,ih.1.1.fac ih.1.2 ih.2.2⟩,fun st d=>if_pos d,fun st d=>if_pos d⟩
end
section
variable {H O U gw cw:Nat} {T:List aU} {st:QS} {Y B vI:Value} {V D:List V3} {w w':World}
def bZ(T:List aU)(st:QS):Nat:=if st.a=0 then T.length - st.i else 0
def gH(T:List aU)(st:QS)(n:Nat):Prop:=st.L.length+8*(T.length - st.i)<=100000+n
theorem Gr.need{a b:QS}{n:Nat}(h:Gr a b n):bZ T b<=bZ T a:=by
 unfold bZ
 by_cases e:b.a=0
 ·have d:a.a=0:=by
   by_cases d:a.a=0
   ·exact d
   ·exact absurd ((h.stick d).1 ▸ e) d
  rw[if_pos d,if_pos e];have:=h.i;omega
 simp[*]
theorem gH.gr{a b:QS}{m n:Nat}(e:gH T a m)(h:Gr a b n)(d:b.i<=T.length):gH T b (m+n):=by
 unfold gH at*;have:=h.room;omega
def mT(H O U gw cw:Nat)(T:List aU)(vI:Value)(f:Nat)(args:Array Value)(P:QS->QS × Int)(N:Nat):Prop:=
 ∀ (st:QS) (Y:Value) (V:List V3) (w:World) (c:Nat),c<=50000->PW H O U gw cw T st Y vI V w->bZ T st<=N->gH T st c->Calls prog f args w fun e w'=>e= .returned (Qc (P st).2)/\Aft H O U gw cw T vI Y V w (P st).1 w'
theorem wP(w:World)(d:H<=w.1.size)(x y:Int):(w.alloc (Qf #[Qc x,Qc y] 3)).ownsRow H 3 1 (Qe w.1.size 2 2) 2 (fQ [x,y]):=
 ⟨rfl,.r ⟨w.1.size,2,#[Qc x,Qc y],rfl,d,Qk w _,Oa,Ob,rfl,rfl⟩⟩
theorem aNG(P:QS->QS × Int)(I:oG P)(Z:ByteArray)(h8:Z.size<=1000)(S:Bool)(N:Nat)(hP:mT H O U gw cw T vI 349 #[Qd O,.bool S] P N):
 mT H O U gw cw T vI 330 #[Qd O,.string Z,.bool S] (mZ T P Z) N:=by
 intro st Y V w c k9 h K L;have HP:Hid (mT H O U gw cw T vI 349 #[Qd O,.bool S] P N):=hP;clear hP;go_enter func330,ntmps330
 go_wp2_with fail
 refine(HP.o st Y V w c k9 h K L).mono ?_;rintro e w1 ⟨rfl,a2,V1,u,x1⟩;have y3:bZ T (P st).1<=N:=Qm (I st).need K;have k7:gH T (P st).1 (c+1):=L.gr (I st) (Nat.le_of_lt u.lt);have y6:Hid (mZ T P Z st=nK T P Z T.length (P st).2 (P st).1):=rfl;clear h K L;generalize (P st).1=A at*;generalize (P st).2=x0 at*;go_wp2_with fail
 refine(aJN Z h8 u).mono ?_;rintro e w2 ⟨rfl,R,rfl⟩;have h2:=u.drewN R;have x2:=x1.drewN R;generalize w1.drewN R=W2 at*;clear u x1;go_wp2_with fail
 go_loopg [7,8] T.length (fun m v7 v8 wr=>∃ (C:QS) (x:Int) (E:Value) (r:List V3),v7= Qc x/\v8= .bool (qM T C Z)/\PW H O U gw cw T C E vI r wr/\Px O U Y E V r w wr/\bZ T C<=m/\bZ T C<=N/\gH T C (c+1)/\nK T P Z m x C=nK T P Z T.length x0 A)
 case atStart=>
  refine⟨A,x0,a2,V1,rfl,rfl,h2,x2,?_,y3,k7,rfl⟩;unfold bZ
  split
  ·omega
  ·exact Qn _
 case round=>
  obtain⟨C,x,E,r,rfl,rfl,l,xc,q,y0,k5,h0⟩:=hrel;have G:Hid (nK T P Z gk x C=nK T P Z T.length x0 A):=h0;obtain⟨_,_,_,p3,_,_,_⟩:=l.cells;clear h0 h2 x2 y3 k7
  by_cases f:qM T C Z=true/\C.a=0
  ·obtain⟨m,rfl⟩:∃ m,gk=m+1:=⟨gk - 1,by
    unfold bZ at q;rw[if_pos f.2]at q;have:=l.lt;omega⟩
   have j:=f.1;have t0:(C.a==0)=true:=by simp[f.2]
   have M:=jX T C (aAJ f.1);have HD:Hid (qM T C Z=true/\C.a=0):=f;have Q:bZ T (aG T C)<=N:=Qm (Gr.bz T C).need y0
   have k1:(aG T C).L.length+8*(T.length - (aG T C).i)+3<=100000+c:=by
    unfold gH at k5;rw[M,aV];have:=l.lt;omega
   have k6:gH T (aG T C) c:=by unfold gH;omega
   have k8:bZ T (aG T C)<=m:=by
    unfold bZ at q ⊢;rw[if_pos f.2]at q
    split
    ·rw[M];omega
    ·exact Qn _
   clear f;rw[j];go_wp2_with fail
   refine(lG l).mono ?_;rintro e w3 ⟨rfl,J,e3⟩;unfold aU.g;have z:=J.fresh Ol;have p:=I (aG T C);have h4:=J.alloc (Qf #[Qc (aE T C.i).d,Qc (aE T C.i).e,.string (aE T C.i).f,Qc (aE T C.i).a] 220);have W:=(xc.t (Px.i0 e3)).alloc (Qf #[Qc (aE T C.i).d,Qc (aE T C.i).e,.string (aE T C.i).f,Qc (aE T C.i).a] 220);clear xc e3 p3 J l;go_wp2_with fail
   refine(HP.o _ _ _ _ c k9 h4 Q k6).mono ?_;rintro e i ⟨rfl,a4,V5,o,F⟩;have hz:i.1[w3.1.size]?=some (Qf #[Qc (aE T C.i).d,Qc (aE T C.i).e,.string (aE T C.i).f,Qc (aE T C.i).a] 220):=(F.keep _ Od z.p z.g z.l).t (Qk w3 _);obtain⟨_,y1,y2,_,_⟩:=bK hz;have z0:=Qm p.need Q;have y8:=Qm p.need k8
   have a3:(P (aG T C)).1.L.length+8*(T.length - (P (aG T C)).1.i)+2<=100000+c:=by
    have:=p.room;have:=p.i;have:=o.lt;omega
   have HS:Hid (nK T P Z m (P (aG T C)).1.L.length (cQ {d:=8,at_:=(aE T C.i).e,s:=(aE T C.i).f,c:=[x,(P (aG T C)).2]} (P (aG T C)).1)=nK T P Z T.length x0 A):=by
    rw[Hid,<-G.o];exact(if_pos HD.o).symm
   clear hz h4 p M Q k8 k6 k1 G HD z;generalize (P (aG T C)).2=y at*;generalize (P (aG T C)).1=s5 at*;generalize aE T C.i=t at*;have h6:=o.alloc (Qf #[Qc x,Qc y] 3);have hv:uA H (i.alloc (Qf #[Qc x,Qc y] 3)) {d:=8,at_:=t.e,s:=t.f,c:=[x,y]} (Qe i.1.size 2 2,.slice none 0 0,.slice none 0 0):=⟨wP _ o.t0 _ _,⟨rfl,.l ⟨rfl,rfl⟩⟩,⟨rfl,.l ⟨rfl,rfl⟩⟩⟩
   have k4:∀ k,iX (Qe i.1.size 2 2,.slice none 0 0,.slice none 0 0) k->k=i.1.size:=by
    rintro k (g|g|g)<;>simp[Value.ownBlock]at g;exact g.symm
   have y5:∀ k,vI.ownBlock=some k->¬iX (Qe i.1.size 2 2,.slice none 0 0,.slice none 0 0) k:=fun k g hu=>absurd (fC o.its g) (by rw[k4 k hu];omega);have y7:s5.L.length<=200000:=Oa
   have X:=(W.t F).alloc (Qf #[Qc x,Qc y] 3);have y4:=X.size;have k0:w.1.size<=i.1.size:=(W.t F).size;clear y4 o W F;go_wp2_with fail
   refine(tZ {d:=8,at_:=t.e,s:=t.f,c:=[x,y]} _ h6 hv y5 y7).mono ?_;rintro e w7 ⟨rfl,a5,h7,x7⟩;have x8:=(X.t x7).more (v:=(Qe i.1.size 2 2,.slice none 0 0,.slice none 0 0)) (fun k g=>by rw[k4 k g];exact k0);clear h6 hv X x7 y1 y2;go_wp2_with fail
   refine(aJN Z h8 h7).mono ?_;rintro e w8 ⟨rfl,n8,rfl⟩;go_wp2;go_roundg m
   case rel=>exact⟨_,_,_,_,rfl,rfl,h7.drewN _,x8.drewN _,y8,z0,by unfold gH;simp only[cQ,List.length_append,List.length_cons,List.length_nil];omega,HS.o⟩
   case measure=>omega
  ·have HF:Hid (nK T P Z gk x C=(C,x)):=by
    cases gk
    ·rfl
    ·exact if_neg f
   have y9:qM T C Z=false\/(qM T C Z=true/\(C.a==0)=false):=by
    cases j:qM T C Z
    ·exact .l rfl
    ·exact .r ⟨rfl,by simpa using fun e=>f ⟨j,e⟩⟩
   clear f q y0 k5;rcases y9 with j|⟨j,t0⟩
   all_goals
    rw[j];go_wp2;go_ret;rw[y6.o,<-G.o,HF.o];exact⟨rfl,E,r,l,xc⟩
end
section
variable {H O U gw cw:Nat} {T:List aU} {vI:Value}
theorem mT.le{f:Nat}{args:Array Value}{P:QS->QS × Int}{N M:Nat}(h:mT H O U gw cw T vI f args P N)(i:M<=N):mT H O U gw cw T vI f args P M:=fun st Y V w c d g j e=>h st Y V w c d g Oa e
theorem aS5(F:QS->QS × Int)(N:Nat)(f:mT H O U gw cw T vI 360 #[Qd O] F N):mT H O U gw cw T vI 349 #[Qd O,.bool true] F N:=by
 intro st Y V w c h0 h j k;have i:Hid (mT H O U gw cw T vI 360 #[Qd O] F N):=f;clear f;go_enter func349,ntmps349
 go_wp2_with fail
 refine(i.o st Y V w c h0 h j k).mono ?_;rintro e l ⟨rfl,d⟩;have g:Hid _:=d;clear d;go_wp2;go_ret;exact⟨rfl,g.o⟩
theorem aKV(F:QS->QS × Int)(N:Nat)(f:mT H O U gw cw T vI 330 #[Qd O,.string aBR,.bool true] F N):mT H O U gw cw T vI 349 #[Qd O,.bool false] F N:=by
 intro st Y V w c h0 h j k;have i:Hid (mT H O U gw cw T vI 330 #[Qd O,.string aBR,.bool true] F N):=f;clear f;go_enter func349,ntmps349
 go_wp2_with fail
 refine(i.o st Y V w c h0 h j k).mono ?_;rintro e l ⟨rfl,d⟩;have g:Hid _:=d;clear d;go_wp2;go_ret;exact⟨rfl,g.o⟩
theorem aLK(F:QS->QS × Int)(N:Nat)(f:mT H O U gw cw T vI 330 #[Qd O,.string aEK,.bool false] (mZ T (mZ T F aBR) aEK) N):mT H O U gw cw T vI 290 #[Qd O] (qex T F) N:=by
 intro st Y V w c h0 h l o;have k:Hid (mT H O U gw cw T vI 330 #[Qd O,.string aEK,.bool false] (mZ T (mZ T F aBR) aEK) N):=f;obtain⟨_,_,_,p,_,_,_⟩:=h.cells
 by_cases d:st.a=0
 ·have g:Hid (qex T F st=mZ T (mZ T F aBR) aEK st):=if_neg (by simp[d]);have t0:(st.a !=0)=false:=by simp[d]
  clear f d;go_enter func290,ntmps290
  go_wp2_with fail
  refine(k.o st Y V w c h0 h l o).mono ?_;rintro e q ⟨rfl,i⟩;have j:Hid _:=i;clear i;go_wp2;go_ret;rw[g.o];exact⟨rfl,j.o⟩
 ·have g:Hid (qex T F st=(st,0)):=if_pos d;have t0:(st.a !=0)=true:=by simp[d]
  clear f d;go_enter func290,ntmps290
  go_wp2;go_ret;rw[g.o];exact⟨rfl,Y,V,h,Px.refl O U Y V w⟩
theorem aTD(F:QS->QS × Int)(d:oG F)(N:Nat)(e:mT H O U gw cw T vI 360 #[Qd O] F N):mT H O U gw cw T vI 290 #[Qd O] (qex T F) N:=
 aLK F N (aNG _ (d.chain aBR) aEK Ob false N (aKV _ N (aNG F d aBR Ob true N (aS5 F N e))))
end
section
variable {H O U gw cw:Nat} {T:List aU} {vI:Value}
def aKT(T:List aU)(E:QS->QS × Int)(st:QS):QS × Int:=
 (cQ {d:=9,s:=rE T (E st).1,c:=[(E st).2,(E (kO T (E st).1)).2]} (E (kO T (E st).1)).1,(E (kO T (E st).1)).1.L.length)
theorem aYT(E:QS->QS × Int)(p:oG E)(N:Nat)(P:mT H O U gw cw T vI 290 #[Qd O] E N)(st:QS)(Y:Value)(V:List V3)(w:World)(c:Nat)(a4:c<=40000)(h:PW H O U gw cw T st Y vI V w)(u:bZ T st<=N)(z:gH T st c):
 Calls prog 361 #[Qd O] w fun e w'=>e= .returned (Qc (aKT T E st).2)/\Aft H O U gw cw T vI Y V w (aKT T E st).1 w':=by
 have G:Hid (mT H O U gw cw T vI 290 #[Qd O] E N):=P;have Z:Hid (aKT T E st=(cQ {d:=9,s:=rE T (E st).1,c:=[(E st).2,(E (kO T (E st).1)).2]} (E (kO T (E st).1)).1,((E (kO T (E st).1)).1.L.length:Int))):=rfl;clear P;go_enter func361,ntmps361
 go_wp2_with fail
 refine(G.o st Y V w c Oa h u z).mono ?_;rintro e w1 ⟨rfl,a2,V1,q,S⟩;have R:=Qm (p st).need u;have M:gH T (E st).1 (c+1):=z.gr (p st) (Nat.le_of_lt q.lt);clear h u z;generalize (E st).2=x at*;generalize (E st).1=j at*;go_wp2_with fail
 refine(aAG q).mono ?_;rintro e w2 ⟨rfl,r,I⟩;have k0:=Qm (Gr.comp T j).need R;have t:gH T (kO T j) (c+1):=M.gr (Gr.comp T j) (Nat.le_of_lt r.lt);have A:=S.t (Px.i0 I);generalize rE T j=o at*;generalize kO T j=l at*;clear q S I R M;go_wp2_with fail
 refine(G.o l a2 V1 w2 (c+1) Oa r k0 t).mono ?_;rintro e g ⟨rfl,a5,V5,i,F⟩;have L:gH T (E l).1 (c+1+1):=t.gr (p l) (Nat.le_of_lt i.lt);generalize (E l).2=y at*;generalize (E l).1=s5 at*;have K:=i.alloc (Qf #[Qc x,Qc y] 3);have Q:uA H (g.alloc (Qf #[Qc x,Qc y] 3)) {d:=9,s:=o,c:=[x,y]} (Qe g.1.size 2 2,.slice none 0 0,.slice none 0 0):=⟨wP _ i.t0 _ _,⟨rfl,.l ⟨rfl,rfl⟩⟩,⟨rfl,.l ⟨rfl,rfl⟩⟩⟩
 have J:∀ k,iX (Qe g.1.size 2 2,.slice none 0 0,.slice none 0 0) k->k=g.1.size:=by
  rintro k (f|f|f)<;>simp[Value.ownBlock]at f;exact f.symm
 have k2:∀ k,vI.ownBlock=some k->¬iX (Qe g.1.size 2 2,.slice none 0 0,.slice none 0 0) k:=fun k f hu=>absurd (fC i.its f) (by rw[J k hu];omega);have k3:s5.L.length<=200000:=by unfold gH at L;omega
 have W:=(A.t F).alloc (Qf #[Qc x,Qc y] 3);have h0:w.1.size<=g.1.size:=(A.t F).size;clear i A F L t k0 r;go_wp2_with fail
 refine(tZ {d:=9,s:=o,c:=[x,y]} _ K Q k2 k3).mono ?_;rintro e w7 ⟨rfl,a3,h7,X⟩;have x8:=(W.t X).more (v:=(Qe g.1.size 2 2,.slice none 0 0,.slice none 0 0)) (fun k f=>by rw[J k f];exact h0);clear K Q W X;go_wp2;go_ret;rw[Z.o];exact⟨rfl,a3,_,h7,x8⟩
end
section
variable {H O U gw cw B X:Nat} {T:List aU} {st:QS} {Y C vI:Value} {V D:List V3} {w w':World} {a:NQ} {v:V3}
theorem uA.use_lt(h:uA H w a v){k:Nat}(d:iX v k):k < w.1.size:=by
 obtain⟨⟨c,e⟩,_⟩:=h.typ d
 grind
structure Bx(H O U gw:Nat)(Y vI:Value)(V:List V3)(B X:Nat)(a:NQ)(v:V3)(w:World):Prop where
 c:w.1[X]?=some (.cells (ndC a v) 73 (0,0))
 o:Off O U gw Y vI V X
 m:B<=X
 n:uA H w a v
 u:∀ k,iX v k->Off O U gw Y vI V k/\B<=k
theorem Bx.lt(h:Bx H O U gw Y vI V B X a v w):X < w.1.size:=(Oo h.c)
theorem Bx.ne(h:Bx H O U gw Y vI V B X a v w){k:Nat}(e:iX v k):k≠X:=by
 rintro rfl;obtain⟨⟨c,d⟩,_⟩:=h.n.typ e;rw[h.c]at d
 grind
theorem Bx.px(h:Bx H O U gw Y vI V B X a v w)(e:Px O U Y C V D w w'):Bx H O U gw C vI D B X a v w':=
 ⟨(e.keep X h.lt h.o.p h.o.g h.o.l).t h.c,h.o.px e h.lt,h.m,h.n.move (fun k d=>e.keep k (h.n.use_lt d) (h.u k d).1.p (h.u k d).1.g (h.u k d).1.l),fun k d=>⟨(h.u k d).1.px e (h.n.use_lt d),(h.u k d).2⟩⟩
theorem Bx.old(h:Bx H O U gw Y vI V B X a v w)(d:∀ k,k < w.1.size->w'.1[k]?=w.1[k]?):Bx H O U gw Y vI V B X a v w':=
 ⟨(d X h.lt).t h.c,h.o,h.m,h.n.move (fun k e=>d k (h.n.use_lt e)),h.u⟩
theorem Bx.d(h:Bx H O U gw Y vI V B X a v w)(e:Int):Bx H O U gw Y vI V B X {a with d:=e} v (w.setCell ⟨X,0,none⟩ (Qc e)):=
 have m:uA H (w.setCell ⟨X,0,none⟩ (Qc e)) a v:=h.n.move (fun _ f=>Om (h.ne f))
 ⟨aI _ h.c,h.o,h.m,⟨m.k,m.p,m.h⟩,h.u⟩
theorem Bx.cells(h:Bx H O U gw Y vI V B X a v w):(w.cell? ⟨X,0,none⟩=some (Qc a.d)/\w.cell? ⟨X,1,none⟩=some (Qc a.at_)/\w.cell? ⟨X,2,none⟩=some (.string a.s)/\w.cell? ⟨X,3,none⟩=some (Qc a.n)/\w.cell? ⟨X,4,none⟩=some (Qc a.mid)/\w.cell? ⟨X,5,none⟩=some v.1)/\(w.cell? ⟨X,6,none⟩=some v.2.1/\w.cell? ⟨X,7,none⟩=some v.2.2/\w.cell? ⟨X,8,none⟩=some (Qc a.b)/\w.cell? ⟨X,9,none⟩=some (Qc a.ref)/\w.cell? ⟨X,10,none⟩=some (Qc a.f))/\∀ o,w.frozen? ⟨X,o,none⟩=false:=
 ⟨⟨cell_of_row _ _ _ _ _ _ h.c,cell_of_row _ _ _ _ _ _ h.c,cell_of_row _ _ _ _ _ _ h.c,cell_of_row _ _ _ _ _ _ h.c,cell_of_row _ _ _ _ _ _ h.c,cell_of_row _ _ _ _ _ _ h.c⟩,⟨cell_of_row _ _ _ _ _ _ h.c,cell_of_row _ _ _ _ _ _ h.c,cell_of_row _ _ _ _ _ _ h.c,cell_of_row _ _ _ _ _ _ h.c,cell_of_row _ _ _ _ _ _ h.c⟩,fun o=>by simp[World.frozen?,h.c]⟩
theorem PW.offs(h:PW H O U gw cw T st Y vI V w){P:Nat->Prop}(f:∀ k,P k->Off O U gw Y vI V k)(g:∀ j,j < w.1.size->¬P j->w'.1[j]?=w.1[j]?):PW H O U gw cw T st Y vI V w':=by
 have i:∀ {n o:Nat} {e:TypeId} {x:Value} {p:List Value},w.ownsRow H e o x n p->(∀ k,x.ownBlock=some k->¬P k)->w'.ownsRow H e o x n p:=(by grind[aR,fC]);exact⟨i h.words (fun k e d=>(f k d).t (by grind[Value.ownBlock])),(g O h.lt_pb (fun d=>(f _ d).p rfl)).t h.par,(g U (Oo h.prog) (fun d=>(f _ d).g rfl)).t h.prog,i h.nodes (fun k e d=>(f k d).l e),i h.its (fun k e d=>(f k d).i e),h.c.move (fun j l=>g j (h.used_lt l) (fun d=>(f j d).u l)),h.lt,h.few,h.ends,h.off⟩
theorem Px.news(h:Px O U Y C V D w w'){w2:World}(d:w2.os=w'.os/\w2.tape=w'.tape/\w2.output=w'.output/\w'.1.size<=w2.1.size)(j:∀ k,k < w.1.size->w2.1[k]?=w'.1[k]?):Px O U Y C V D w w2:=
 ⟨d.1.t h.os,d.2.1.t h.tape,d.2.2.1.t h.output,Qm h.size Oa,fun k e f g i=>(j k e).t (h.keep k e f g i),h.row,h.used⟩
theorem Bx.grow{w0:World}(h:Bx H O U gw Y vI V w0.1.size X a v w)(p:PW H O U gw cw T st Y vI V w){s:Value}{i:List V3}(q:Px O U s Y i V w0 w){w1 w2:World}{g o:Nat}{a':NQ}{v':V3}{r Z:Value}(K:∀ k,r.ownBlock=some k->iX v k)(x:(ndC a v).setIfInBounds o Z=ndC a' v')(h0:∀ k,iX v' k->iX v k\/k=g)(l:w1.os=w.os/\w1.tape=w.tape/\w1.output=w.output/\w.1.size<=w1.1.size)(z:∀ k,k < w.1.size->w1.1[k]?=w.1[k]?)(f:w1.grownBy w2 r.ownBlock)(j:r.ownBlock=some g\/g=w1.1.size)(y:uA H w2 a' v'):
 Bx H O U gw Y vI V w0.1.size X a' v' (w2.setCell ⟨X,o,none⟩ Z)/\PW H O U gw cw T st Y vI V (w2.setCell ⟨X,o,none⟩ Z)/\Px O U s Y i V w0 (w2.setCell ⟨X,o,none⟩ Z):=by
 have cP:=q.size;have u:=h.lt;have old:∀ k,k < w.1.size->r.ownBlock≠some k->w2.1[k]?=w.1[k]?:=fun k d I=>(f.block k Oa Qg).t Qh
 have A:g≠X:=by
  rcases j with e|e
  ·exact h.ne Qh
  ·omega
 have E:Off O U gw Y vI V g/\w0.1.size<=g:=by
  rcases j with e|e
  ·exact h.u g Qh
  ·exact⟨p.fresh Oa,Oa⟩
 have t:∀ k,iX v' k->Off O U gw Y vI V k/\w0.1.size<=k:=fun k d=>by
  rcases h0 k d with e|e
  ·exact h.u k e
  simp[*]
 have J:∀ k,iX v' k->k≠X:=fun k d=>by
  rcases h0 k d with e|e
  ·exact h.ne e
  omega
 refine⟨⟨?_,h.o,h.m,y.move (by grind[Below.heap_setCell]),t⟩,?_,?_⟩
 ·rw[<-x];exact aI _ ((old X u (fun e=>h.ne Qh rfl)).t h.c)
 ·refine p.offs (P:=fun k=>iX v k\/k=X) (fun k d=>d.elim (fun e=>(h.u k e).1) (fun e=>e ▸ h.o)) (fun L F G=>?_)
  grind[Below.heap_setCell]
 ·refine q.news ⟨f.os.t l.1,f.tape.t l.2.1,f.output.t Qh,?_⟩ (fun k d=>?_)
  ·have:=f.size
   grind[World.setCell]
  ·have:=h.m;exact(Om (by show k≠X;omega)).t (old k Oa (fun e=>by have:=(h.u k Qh).2;omega))
theorem Bx.kid{w0:World}(h:Bx H O U gw Y vI V w0.1.size X a v w)(q:PW H O U gw cw T st Y vI V w){i:Value}{e:List V3}(r:Px O U i Y e V w0 w)(j:v.2=(.slice none 0 0,.slice none 0 0))(f:a.g=[]/\a.e=[]){x:Int}{w1 w2:World}{g J:Nat}(o:w1.os=w.os/\w1.tape=w.tape/\w1.output=w.output/\w.1.size<=w1.1.size)(l:∀ k,k < w.1.size->w1.1[k]?=w.1[k]?)(s:w2.ownsRow H 3 1 (Qe g (a.c.length+1) J) (a.c.length+1) (fQ a.c++[Qc x]))(p:w1.grownBy w2 v.1.ownBlock)(h0:v.1.ownBlock=some g\/g=w1.1.size):
 Bx H O U gw Y vI V w0.1.size X {a with c:=a.c++[x]} (Qe g (a.c.length+1) J,.slice none 0 0,.slice none 0 0) (w2.setCell ⟨X,5,none⟩ (Qe g (a.c.length+1) J))/\PW H O U gw cw T st Y vI V (w2.setCell ⟨X,5,none⟩ (Qe g (a.c.length+1) J))/\Px O U i Y e V w0 (w2.setCell ⟨X,5,none⟩ (Qe g (a.c.length+1) J)):=by
 obtain⟨t,u,y⟩:=v;cases j;refine h.grow q r (fun k d=> .l d) rfl (fun k d=>?_) o l p h0 ⟨?_,?_,?_⟩
 ·rcases d with d|d|d
  ·grind[Value.ownBlock]
  ·cases d
  trivial
 ·grind[fQ]
 ·rw[f.1];exact⟨rfl,Od⟩
 ·rw[f.2];exact⟨rfl,Od⟩
theorem Bx.use(h:Bx H O U gw Y vI V B X a v w):NdA a v= .agg (ndC a v)/\(∀ k,vI.ownBlock=some k->¬iX v k)/\∀ k,iX v k->B<=k:=
 ⟨rfl,fun k d e=>(h.u k e).1.i d,fun k d=>(h.u k d).2⟩
end
section
variable {T:List aU} {st a b c:QS} {m n:Nat}
def sG:ByteArray:=⟨#[38,38]⟩
def orT:ByteArray:=⟨#[124,124]⟩
def lbT:ByteArray:=⟨#[123]⟩
def rbT:ByteArray:=⟨#[125]⟩
def mF:ByteArray:=⟨#[61]⟩
def tH:ByteArray:=⟨#[59]⟩
def aBL:ByteArray:=⟨#[101,108,115,101]⟩
def mY:ByteArray:=⟨#[119,104,101,114,101]⟩
def aDC:ByteArray:=⟨#[108,101,116]⟩
def ifT:ByteArray:=⟨#[105,102]⟩
def tE:ByteArray:=⟨#[119,104,105,108,101]⟩
def qK:ByteArray:=⟨#[114,101,116,117,114,110]⟩
def stT:ByteArray:=⟨#[108,101,116,32,105,102,32,119,104,105,108,101,32,114,101,116,117,114,110,32,111,117,116]⟩
def aU4:ByteArray:=⟨#[97,114,114]⟩
def aT8:ByteArray:=⟨#[102,110]⟩
def jR(T:List aU)(P:QS->QS × Int)(s:ByteArray)(kd:Int):Nat->Int->QS->QS × Int
 |0,x,st=>(st,x)
 |k+1,x,st=>if dF T st s=true/\st.a=0 then
   jR T P s kd k (P (aG T st)).1.L.length (cQ {d:=kd,c:=[x,(P (aG T st)).2]} (P (aG T st)).1)
  else(st,x)
def aGK(T:List aU)(P:QS->QS × Int)(s:ByteArray)(kd:Int)(st:QS):QS × Int:=jR T P s kd T.length (P st).2 (P st).1
def aZR(T:List aU)(E:QS->QS × Int):QS->QS × Int:=aGK T (aKT T E) sG 10
def aBC(T:List aU)(E:QS->QS × Int):QS->QS × Int:=aGK T (aZR T E) orT 11
def fS(T:List aU)(S:QS->QS × Int):Nat->List Int->QS->QS × List Int
 |0,l,st=>(st,l)
 |k+1,l,st=>if st.a=0/\dF T st rbT=false then fS T S k (l++[(S st).2]) (S st).1 else(st,l)
def wL(T:List aU)(S:QS->QS × Int)(st:QS):QS × Int:=
 let r:=fS T S T.length [] (aO T lbT st)
 (cQ {d:=19,c:=r.2} (cN T rbT r.1),r.1.L.length)
def lK(T:List aU)(E:QS->QS × Int)(x:NQ)(st:QS):QS × Int:=
 (cQ {x with c:=x.c++[(E st).2]} (cO T tH (E st).1),(E st).1.L.length)
def fB(T:List aU)(C B:QS->QS × Int)(x:NQ)(isIf:Bool)(st:QS):QS × Int:=
 if isIf=true/\dF T (B (C st).1).1 aBL=true/\(B (C st).1).1.a=0 then
  (cQ {x with d:=15,c:=[(C st).2,(B (C st).1).2,(B (aG T (B (C st).1).1)).2]} (B (aG T (B (C st).1).1)).1,(B (aG T (B (C st).1).1)).1.L.length)
 else(cQ {x with d:=if isIf=true then 15 else 16,c:=[(C st).2,(B (C st).1).2]} (B (C st).1).1,(B (C st).1).1.L.length)
def jQ(T:List aU)(E C B:QS->QS × Int)(st:QS):QS × Int:=
 let t:=aE T st.i
 let s1:=aG T st
 if t.d=1 then
  if dF T s1 qD=true then
   let e:=E (aO T qD s1)
   lK T E {d:=14,at_:=t.e,s:=t.f,c:=[e.2]} (cO T mF (cN T tI e.1))
  else lK T E {d:=13,at_:=t.e,s:=t.f} (cO T mF s1)
 else if qM T st stT=true then
  if t.f=aDC then lK T E {d:=12,at_:=(dC T 1 s1).e,s:=(dC T 1 s1).f} (cO T mF (cX T 1 s1))
  else if t.f=ifT then fB T C B {d:=0,at_:=t.e} true s1
  else if t.f=tE then fB T C B {d:=0,at_:=t.e} false s1
  else if t.f=qK then lK T E {d:=17,at_:=t.e} s1
  else lK T E {d:=18,at_:=t.e} s1
 else(dW T st,0)
def qBl(T:List aU)(E C:QS->QS × Int):Nat->QS->QS × Int
 |0=>fun st=>(st,0)
 |n+1=>wL T (jQ T E C (qBl T E C n))
def dJ(T:List aU):Nat->Bool->List aU->QS->QS × List aU
 |0,_,l,st=>(st,l)
 |k+1,more,l,st=>if more=true/\st.a=0 then
   dJ T k (dF T (cX T 1 st) xY) (l++[dC T 1 st]) (if dF T (cX T 1 st) xY=true then aG T (cX T 1 st)else cX T 1 st)
  else(st,l)
def gT(T:List aU)(st:QS):QS × Int:=
 (cQ {d:=9,at_:=(aE T st.i).e,s:=rE T (jH T st),c:=[st.L.length,(kO T (jH T st)).L.length]} (jH T (kO T (jH T st))),(jH T (kO T (jH T st))).L.length)
def eF(T:List aU):Nat->Bool->List Int->QS->QS × List Int
 |0,_,l,st=>(st,l)
 |k+1,more,l,st=>if more=true/\st.a=0 then
   eF T k (dF T (gT T (aG T st)).1 xY) (l++[(gT T (aG T st)).2]) (gT T (aG T st)).1
  else(st,l)
def pN(T:List aU)(B:QS->QS × Int)(st:QS):QS × Int:=
 let s1:=aO T cR (cX T 1 st)
 let p:=dJ T T.length (!dF T s1 fR) [] s1
 let s2:=cN T fR p.1
 let h:=eF T T.length (dF T s2 mY) [] s2
 let b:=B h.1
 (cQ {d:=2,at_:=(dC T 1 st).e,s:=(dC T 1 st).f,g:=p.2,e:=h.2,c:=[b.2]} b.1,b.1.L.length)
def kM(x:Int)(st:QS):QS:={st with c:=st.c++[x]}
def tQ(T:List aU)(st:QS):QS × Int:=
 let s2:=cX T 1 st
 let s3:=cO T tH (cX T 2 s2)
 (cQ {d:=1,at_:=(dC T 1 st).e,s:=(dC T 1 st).f,n:=(dC T 2 s2).a,mid:=(dC T 2 s2).e} s3,s3.L.length)
def dO(T:List aU)(B:QS->QS × Int):Nat->QS->QS
 |0,st=>st
 |k+1,st=>if st.a=0/\(aE T st.i).d≠0 then
   if dF T st aU4=true then dO T B k (kM (tQ T (aG T st)).2 (tQ T (aG T st)).1)
   else if dF T st aT8=true then dO T B k (kM (pN T B (aG T st)).2 (pN T B (aG T st)).1)
   else dO T B k (dW T st)
  else st
def qE(T:List aU):QS->QS × Int:=(zV T (T.length+1)).1
def qC(T:List aU):QS->QS × Int:=aBC T (qE T)
def qB(T:List aU):QS->QS × Int:=qBl T (qE T) (qC T) (T.length+1)
def dY(T:List aU):QS:=dO T (qB T) T.length ⟨0,0,0,0,[],[]⟩
def Grn(n:Nat)(P:QS->QS × Int):Prop:=∀ st,Gr st (P st).1 n
theorem Grn.loop{P:QS->QS × Int}{n:Nat}(h:Grn n P)(i:n<=7)(s:ByteArray)(e:Int):∀ (k:Nat) (x:Int) (st:QS),Gr st (jR T P s e k x st).1 0:=by
 intro k
 induction k with
 |zero=>exact fun _ st=>Gr.refl st
 |succ k ih=>
  intro x st;unfold jR
  split
  ·rename_i hy;have f:=Gr.bz T st;have g:=(h (aG T st)).t (Gr.add {d:=e,c:=[x,(P (aG T st)).2]} _);exact((f.paid (by grind[Nat.le_of_eq,jX,pK]) g Oa aV).t (ih _ _)).le Oa
  ·exact Gr.refl st
theorem Grn.log{P:QS->QS × Int}{n:Nat}(d:Grn n P)(f:n<=7)(s:ByteArray)(e:Int):Grn n (aGK T P s e):=fun st=>((d st).t (d.loop f s e _ _ _)).le Oa
theorem oG.cmp{E:QS->QS × Int}(d:oG E):Grn 3 (aKT T E):=fun st=>(((d st).t (Gr.comp T _)).t ((d _).t (Gr.add _ _))).le Oa
theorem oG.cond{E:QS->QS × Int}(d:oG E):Grn 3 (aBC T E):=(d.cmp.log Oa sG 10).log Oa orT 11
theorem oG.fin{E:QS->QS × Int}(d:oG E)(x:NQ)(st:QS):Gr st (lK T E x st).1 2:=((d st).t ((Gr.must T tH _).t (Gr.add _ _))).le Oa
theorem Grn.branch{C B:QS->QS × Int}(e:Grn 3 C)(d:oG B)(x:NQ)(q:Bool)(st:QS):Gr st (fB T C B x q st).1 6:=by
 unfold fB
 split
 ·exact(((e st).t (d _)).t (((Gr.bz T _).t (d _)).t (Gr.add _ _))).le Oa
 ·exact(((e st).t (d _)).t (Gr.add _ _)).le Oa
theorem uH{E C B:QS->QS × Int}(f:oG E)(h:Grn 3 C)(g:oG B)(st:QS):Gr st (jQ T E C B st).1 0/\((jQ T E C B st).1.a≠0\/st.i+1<=(jQ T E C B st).1.i):=by
 have e:∀ x:QS,(aE T st.i).d≠0->Gr (aG T st) x 8->Gr st x 0/\(x.a≠0\/st.i+1<=x.i):=fun x d i=>
  ⟨(Gr.bz T st).paid (by grind[Nat.le_of_eq,jX]) i Oa aV,.r (by have:=i.i;grind[jX])⟩
 unfold jQ;dsimp only
 split
 ·rename_i d
  split
  ·exact e _ Oa (((((Gr.opn T qD _).t (f _)).t (Gr.h0 T tI _)).t ((Gr.must T mF _).t (f.fin _ _))).le Oa)
  ·exact e _ Oa (((Gr.must T mF _).t (f.fin _ _)).le Oa)
 ·split
  ·rename_i ha;have d:=aAJ ha
   split
   ·exact e _ d ((((Gr.knd T 1 _).t (Gr.must T mF _)).t (f.fin _ _)).le Oa)
   split
   ·exact e _ d ((h.branch g _ _ _).le Oa)
   split
   ·exact e _ d ((h.branch g _ _ _).le Oa)
   split
   ·exact e _ d ((f.fin _ _).le Oa)
   ·exact e _ d ((f.fin _ _).le Oa)
  grind[dW,Gr.e0]
theorem Grn.body{S:QS->QS × Int}(d:Grn 0 S):∀ (k:Nat) (l:List Int) (st:QS),Gr st (fS T S k l st).1 0:=by
 intro k
 induction k with
 |zero=>exact fun _ st=>Gr.refl st
 |succ k ih=>
  intro l st;unfold fS
  split
  ·exact((d st).t (ih _ _)).le Oa
  ·exact Gr.refl st
theorem Grn.block{S:QS->QS × Int}(d:Grn 0 S):oG (wL T S):=fun st=>(((Gr.opn T lbT st).t (d.body _ _ _)).t ((Gr.h0 T rbT _).t (Gr.add _ _))).le Oa
theorem zT{E C:QS->QS × Int}(e:oG E)(d:Grn 3 C)(n:Nat):oG (qBl T E C n):=by
 induction n with
 |zero=>exact fun st=>(Gr.refl st).le Oa
 |succ n ih=>exact Grn.block (fun st=>(uH e d ih st).1)
theorem aDJ(T:List aU):oG (qE T):=(iL T _).1.1
theorem aL9(T:List aU):Grn 3 (qC T):=(aDJ T).cond
theorem aT4(T:List aU):oG (qB T):=zT (aDJ T) (aL9 T) _
theorem Gr.atom(T:List aU)(st:QS):Gr st (jH T st) 1:=by
 unfold jH
 split
 ·exact(((Gr.bz T st).t (Gr.knd T 2 _)).t (Gr.add _ _)).le Oa
 split
 ·exact((Gr.bz T st).t (Gr.add _ _)).le Oa
 ·exact((Gr.knd T 1 st).t (Gr.add _ _)).le Oa
theorem Gr.where_(T:List aU)(st:QS):Gr st (gT T st).1 3:=(((Gr.atom T st).t (Gr.comp T _)).t ((Gr.atom T _).t (Gr.add _ _))).le Oa
theorem aCA:∀ (k:Nat) (more:Bool) (l:List aU) (st:QS),Gr st (dJ T k more l st).1 0:=by
 intro k
 induction k with
 |zero=>exact fun _ _ st=>Gr.refl st
 |succ k ih=>
  intro more l st;unfold dJ
  split
  ·refine(((Gr.knd T 1 st).t (n:=0) ?_).t (ih _ _ _)).le Oa
   grind[Gr.bz,Gr.refl]
  ·exact Gr.refl st
theorem aYI:∀ (k:Nat) (more:Bool) (l:List Int) (st:QS),(more=true->st.a=0->(aE T st.i).d≠0)->Gr st (eF T k more l st).1 0:=by
 intro k
 induction k with
 |zero=>exact fun _ _ st _=>Gr.refl st
 |succ k ih=>
  intro more l st e;unfold eF
  split
  ·rename_i hy;exact(((Gr.bz T st).paid (by grind[Nat.le_of_eq,jX]) (Gr.where_ T _) Oa aV).t (ih _ _ _ (fun d _=>pK d))).le Oa
  ·exact Gr.refl st
theorem aDH{B:QS->QS × Int}(d:oG B):Grn 2 (pN T B):=fun st=>
 ((((Gr.knd T 1 st).t (Gr.opn T cR _)).t ((aCA _ _ _ _).t (Gr.h0 T fR _))).t (((aYI _ _ _ _ (fun e _=>pK e)).t (d _)).t (Gr.add _ _))).le Oa
theorem aDI:Grn 1 (tQ T):=fun st=>(((Gr.knd T 1 st).t (Gr.knd T 2 _)).t ((Gr.must T tH _).t (Gr.add _ _))).le Oa
end
section
variable {T:List aU}
theorem aIY{B:QS->QS × Int}(f:oG B):∀ (n:Nat) (st:QS),(dO T B n st).L.length+8*st.i<=st.L.length+8*(dO T B n st).i+2*n/\(dO T B n st).c.length<=st.c.length+n/\((∀ a∈st.L,a.f < 0)->∀ a∈(dO T B n st).L,a.f < 0)
 |0,st=>(by grind[dO])
 |n+1,st=>by
  have aGD:∀ d:QS,d.L.length+8*st.i<=st.L.length+8*d.i+2->d.c.length<=st.c.length+1->((∀ a∈st.L,a.f < 0)->∀ a∈d.L,a.f < 0)->(dO T B n d).L.length+8*st.i<=st.L.length+8*(dO T B n d).i+2*(n+1)/\(dO T B n d).c.length<=st.c.length+(n+1)/\((∀ a∈st.L,a.f < 0)->∀ a∈(dO T B n d).L,a.f < 0):=fun d l o j=>by
   obtain⟨q,r,k⟩:=aIY f n d;exact⟨Oa,Oa,fun h=>k (j h)⟩
  have i:∀ (e:QS) (x:Int) (m:Nat),m<=2->Gr st e m->(dO T B n (kM x e)).L.length+8*st.i<=st.L.length+8*(dO T B n (kM x e)).i+2*(n+1)/\(dO T B n (kM x e)).c.length<=st.c.length+(n+1)/\((∀ a∈st.L,a.f < 0)->∀ a∈(dO T B n (kM x e)).L,a.f < 0):=fun e x m p g=>
   aGD _ (by have:=g.room;show e.L.length+_<=_+8*e.i+_;omega) (by simp[kM,g.c]) g.neg
  unfold dO
  split
  ·split
   ·exact i _ _ 1 Oa (((Gr.bz T st).t (aDI _)).le Oa)
   ·split
    ·exact i _ _ 2 Oa (((Gr.bz T st).t (aDH f _)).le Oa)
    ·have g:=Gr.e0 T st;exact aGD _ (Oi g.room) (by rw[g.c];omega) g.neg
  simp
theorem aOO(g:T.length<=5000)(hi:(dY T).i < T.length):(dY T).L.length<=50000/\(dY T).c.length<=5000/\∀ a∈(dY T).L,a.f < 0:=by
 obtain⟨e,f,d⟩:=aIY (aT4 T) T.length ⟨0,0,0,0,[],[]⟩;refine⟨?_,?_,d (fun a h=>by cases h)⟩
 ·grind[dY]
 grind[dY]
end
end Go.Proofs.YtikffmloeifkpaaGreatDoor
