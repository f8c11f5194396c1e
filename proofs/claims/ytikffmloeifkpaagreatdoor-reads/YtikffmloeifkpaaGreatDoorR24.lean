/- Contracts. -/
import Derived.Test.YtikffmloeifkpaaGreatDoorR22
set_option maxHeartbeats 4000000
set_option maxRecDepth 100000
namespace Go.Proofs.YtikffmloeifkpaaGreatDoor
open Go.RowKit Go.Lib Go.Deep Go.ChangeMaps Go.MapKept Tryz
section
structure NQ where
 d:Int
 at_:Int:=0
 s:ByteArray:=⟨#[]⟩
 n:Int:=0
 mid:Int:=0
 c:List Int:=[]
 g:List Tok:=[]
 e:List Int:=[]
 b:Int:=0
 ref:Int:=0
 f:Int:=0
structure QS where
 i:Nat
 op:Int
 a:Int
 e:Int
 L:List NQ
 c:List Int
abbrev V3:=Value × Value × Value
def bLU(l:List Int):List Value:=l.map (Value.int .i64)
def NdV(a:NQ)(v:V3):List Value:=[Qc a.d,Qc a.at_,.string a.s,Qc a.n,Qc a.mid,v.1,v.2.1,v.2.2,Qc a.b,Qc a.ref,Qc a.f]
def bMY:List NQ->List V3->List Value
 |a::L,v::V=>NdV a v++bMY L V
 |_,_=>[]
structure NdW(H:Nat)(w:World)(a:NQ)(v:V3):Prop where
 k:w.ownsRow H 3 1 v.1 a.c.length (bLU a.c)
 p:w.ownsRow H 220 4 v.2.1 a.g.length (fJ a.g)
 h:w.ownsRow H 3 1 v.2.2 a.e.length (bLU a.e)
def bMQ(H:Nat)(w:World):List NQ->List V3->Prop
 |[],[]=>True
 |a::L,v::V=>NdW H w a v/\bMQ H w L V
 |_,_=>False
def bM7(v:V3)(k:Nat):Prop:=v.1.ownBlock=some k\/v.2.1.ownBlock=some k\/v.2.2.ownBlock=some k
def bOJ(V:List V3)(k:Nat):Prop:=∃ v∈V,bM7 v k
theorem NdW.move{H:Nat}{w w':World}{a:NQ}{v:V3}(h:NdW H w a v)(c:∀ k,bM7 v k->w'.1[k]?=w.1[k]?):NdW H w' a v:=
 ⟨cD h.k (fun k b=>c k (.l b)),cD h.p (fun k b=>c k (.r (.l b))),cD h.h (fun k b=>c k (.r (.r b)))⟩
theorem bMQ.move{H:Nat}{w w':World}:∀ {L:List NQ} {V:List V3},bMQ H w L V->(∀ k,bOJ V k->w'.1[k]?=w.1[k]?)->bMQ H w' L V
 |[],[],_,_=>trivial
 |_::_,v::_,h,hw=>⟨h.1.move (fun k a=>hw k ⟨v,Qs,a⟩),bMQ.move h.2 (fun k ⟨u,b,a⟩=>hw k ⟨u,Qu _ b,a⟩)⟩
theorem NdW.typ{H:Nat}{w:World}{a:NQ}{v:V3}(h:NdW H w a v){k:Nat}(b:bM7 v k):(∃ f,w.1[k]?=some (.cells f 3 (0,0))\/w.1[k]?=some (.cells f 220 (0,0)))/\H<=k:=by
 rcases b with b|b|b
 ·obtain⟨⟨c,e⟩,d⟩:=bEH h.k b;exact⟨⟨c,.l e⟩,d⟩
 ·obtain⟨⟨c,e⟩,d⟩:=bEH h.p b;exact⟨⟨c,.r e⟩,d⟩
 ·obtain⟨⟨c,e⟩,d⟩:=bEH h.h b;exact⟨⟨c,.l e⟩,d⟩
theorem bMQ.typ{H:Nat}{w:World}{k:Nat}:∀ {L:List NQ} {V:List V3},bMQ H w L V->bOJ V k->(∃ b,w.1[k]?=some (.cells b 3 (0,0))\/w.1[k]?=some (.cells b 220 (0,0)))/\H<=k
 |[],[],_,⟨_,hv,_⟩=>by cases hv
 |_::_,_::_,h,⟨u,a,hk⟩=>by
  rcases List.mem_cons.1 a with rfl|a
  ·exact h.1.typ hk
  ·exact bMQ.typ h.2 ⟨u,a,hk⟩
theorem bMQ.snoc{H:Nat}{w:World}{a:NQ}{v:V3}:∀ {L:List NQ} {V:List V3},bMQ H w L V->NdW H w a v->bMQ H w (L++[a]) (V++[v])
 |[],[],_,h=>⟨h,trivial⟩
 |_::_,_::_,h,h2=>⟨h.1,bMQ.snoc h.2 h2⟩
theorem bMY.snoc{a:NQ}{v:V3}:∀ {L:List NQ} {V:List V3},L.length=V.length->bMY (L++[a]) (V++[v])=bMY L V++NdV a v
 |[],[],_=>by simp[bMY]
 |b::L,u::V,h=>by
  show NdV b u++bMY (L++[a]) (V++[v])=(NdV b u++bMY L V)++_;rw[bMY.snoc (by simpa using h),List.append_assoc]
theorem bMQ.len{H:Nat}{w:World}:∀ {L:List NQ} {V:List V3},bMQ H w L V->L.length=V.length
 |[],[],_=>rfl
 |_::_,_::_,h=>by simp[bMQ.len h.2]
structure PW(H O U gw cw:Nat)(T:List Tok)(st:QS)(Y vI:Value)(V:List V3)(w:World):Prop where
 words:w.ownsRow H 220 4 (Qe gw T.length cw) T.length (fJ T)
 par:w.1[O]?=some (Qf #[Qe gw T.length cw,Qc st.i,Qc st.op,Qc st.a,Qc st.e,Qd U] 126)
 prog:w.1[U]?=some (Qf #[Y,vI,.slice none 0 0,.slice none 0 0,Qc 0,.slice none 0 0] 76)
 nodes:w.ownsRow H 73 11 Y st.L.length (bMY st.L V)
 its:w.ownsRow H 3 1 vI st.c.length (bLU st.c)
 c:bMQ H w st.L V
 lt:st.i < T.length
 few:T.length<=5000
 ends:(dD T (T.length - 1)).d=0
 off:∀ k,vI.ownBlock=some k->¬bOJ V k
structure Px(O U:Nat)(Y vL':Value)(V V':List V3)(w w':World):Prop where
 os:w'.os=w.os
 tape:w'.tape=w.tape
 output:w'.output=w.output
 size:w.1.size<=w'.1.size
 keep:∀ k,k < w.1.size->k≠O->k≠U->Y.ownBlock≠some k->w'.1[k]?=w.1[k]?
 row:∀ k,vL'.ownBlock=some k->Y.ownBlock=some k\/w.1.size<=k
 used:∀ k,bOJ V' k->bOJ V k\/w.1.size<=k
theorem Px.refl(O U:Nat)(Y:Value)(V:List V3)(w:World):Px O U Y Y V V w w:=⟨rfl,rfl,rfl,Ql _,fun _ _ _ _ _=>rfl,fun _ h=> .l h,fun _ h=> .l h⟩
theorem Px.t{O U:Nat}{m n o:Value}{b c d:List V3}{w1 w2 w3:World}(h:Px O U m n b c w1 w2)(k:Px O U n o c d w2 w3):Px O U m o b d w1 w3:=by
 refine⟨k.os.t h.os,k.tape.t h.tape,k.output.t h.output,Qm h.size k.size,fun j a g i l=>?_,fun j a=>?_,fun j a=>?_⟩
 ·refine(k.keep j (Nat.lt_of_lt_of_le a h.size) g i (fun e=>?_)).t (h.keep j a g i l);rcases h.row j e with f|f
  ·exact l f
  ·omega
 ·rcases k.row j a with e|e
  ·exact h.row j e
  ·exact .r (Qm h.size e)
 ·rcases k.used j a with e|e
  ·exact h.used j e
  ·exact .r (Qm h.size e)
def qat(T:List Tok)(st:QS)(s:ByteArray):Bool:=decide ((dD T st.i).d=3)&&decide ((dD T st.i).f=s)
def bNR(T:List Tok)(st:QS)(all:ByteArray):Bool:=decide ((dD T st.i).d=3)&&inQ (dD T st.i).f all
def bKV(T:List Tok)(st:QS):QS:=if(dD T st.i).d≠0 then {st with i:=st.i+1}else st
def bLH(T:List Tok)(st:QS):QS:=if st.a=0 then {st with a:=2,e:=(dD T st.i).e}else st
def bL1(T:List Tok)(s:ByteArray)(st:QS):QS:=if st.a≠0 then st else if qat T st s=true then bKV T st else bLH T st
def bKW(T:List Tok)(s:ByteArray)(st:QS):QS:=bL1 T s (if qat T st s=true/\st.a=0/\st.op=10 then {st with a:=6,e:=(dD T st.i).e,op:=wrap64 (st.op+1)}else {st with op:=wrap64 (st.op+1)})
def bL0(T:List Tok)(s:ByteArray)(st:QS):QS:=bL1 T s {st with op:=wrap64 (st.op - 1)}
def bL6(T:List Tok)(k:Int)(st:QS):QS:=if(dD T st.i).d≠k then bLH T st else bKV T st
def bL9(T:List Tok)(k:Int)(st:QS):Tok:=if(dD T st.i).d≠k then aD6 else dD T st.i
def bL2(a:NQ)(st:QS):QS:={st with L:=st.L++[{a with f:=-1}]}
section
variable {H O U gw cw:Nat} {T:List Tok} {st:QS} {Y vI:Value} {V:List V3} {w w':World}
theorem PW.word(h:PW H O U gw cw T st Y vI V w)(j:Nat)(f:j < 4):w.cell? ⟨gw,st.i*4+j,none⟩=(dD T st.i).cells[j]?:=by
 obtain⟨_,i⟩:=h.words;rcases i with⟨a,_⟩|⟨g,J,k,a,_,e,_,_,_,c⟩
 ·cases a
 ·simp only[Value.slice.injEq,Option.some.injEq,Addr.mk.injEq]at a;obtain⟨⟨rfl,_⟩,_⟩:=a;have d:=h.lt;have b:=aF0 T st.i (dD T st.i) (lJ d) j f;rw[<-c,List.getElem?_take,if_pos Oa]at b;rw[cell_of_row _ _ _ _ _ _ e,<-b];simp
theorem PW.cells(h:PW H O U gw cw T st Y vI V w):w.cell? ⟨O,0,none⟩=some (Qe gw T.length cw)/\w.cell? ⟨O,1,none⟩=some (Qc st.i)/\w.cell? ⟨O,2,none⟩=some (Qc st.op)/\w.cell? ⟨O,3,none⟩=some (Qc st.a)/\w.cell? ⟨O,4,none⟩=some (Qc st.e)/\w.cell? ⟨O,5,none⟩=some (Qd U)/\∀ o,w.frozen? ⟨O,o,none⟩=false:=
 ⟨Og h.par rfl,Og h.par rfl,Og h.par rfl,Og h.par rfl,Og h.par rfl,Og h.par rfl,fun o=>by simp[World.frozen?,h.par]⟩
theorem PW.turn(h:PW H O U gw cw T st Y vI V w){st':QS}(f:st'.L=st.L)(p:st'.c=st.c)(m:st'.i < T.length)(s:w'.1[O]?=some (Qf #[Qe gw T.length cw,Qc st'.i,Qc st'.op,Qc st'.a,Qc st'.e,Qd U] 126))(r:∀ k,k < w.1.size->k≠O->w'.1[k]?=w.1[k]?):PW H O U gw cw T st' Y vI V w':=by
 have off:∀ {k:Nat} {l:Array Value} {t:TypeId},w.1[k]?=some (.cells l t (0,0))->t≠126->w'.1[k]?=w.1[k]?:=fun a b=>r _ (Oo a) (bEF a h.par b)
 have d:∀ {n i:Nat} {e:TypeId} {v:Value} {j:List Value},w.ownsRow H e i v n j->e≠126->w'.ownsRow H e i v n j:=fun g b=>cD g (fun k q=>by
  obtain⟨⟨c,a⟩,_⟩:=bEH g q;exact off a b)
 have o:bMQ H w' st.L V:=h.c.move (fun k u=>by
  obtain⟨⟨c,a⟩,_⟩:=h.c.typ u;rcases a with a|a
  ·exact off a Ob
  ·exact off a Ob)
 exact⟨d h.words Ob,s,(off h.prog Ob).t h.prog,by rw[f];exact d h.nodes Ob,by rw[p];exact d h.its Ob,by rw[f];exact o,m,h.few,h.ends,h.off⟩
theorem PW.same(h:PW H O U gw cw T st Y vI V w)(a:∀ k,k < w.1.size->w'.1[k]?=w.1[k]?):PW H O U gw cw T st Y vI V w':=
 h.turn rfl rfl h.lt ((a O (Oo h.par)).t h.par) (fun k b _=>a k b)
theorem Px.of_turn(a:w'.os=w.os/\w'.tape=w.tape/\w'.output=w.output/\w.1.size<=w'.1.size)(b:∀ k,k < w.1.size->k≠O->w'.1[k]?=w.1[k]?):Px O U Y Y V V w w':=
 ⟨a.1,a.2.1,a.2.2.1,a.2.2.2,fun k c d _ _=>b k c d,fun _ h=> .l h,fun _ h=> .l h⟩
end
end
section
variable {H O U gw cw:Nat} {T:List Tok} {st:QS} {Y vI:Value} {V:List V3} {w w':World}
theorem PW.w4(h:PW H O U gw cw T st Y vI V w):w.cell? ⟨gw,st.i*4,none⟩=some (Qc (dD T st.i).d)/\w.cell? ⟨gw,st.i*4+1,none⟩=some (Qc (dD T st.i).e)/\w.cell? ⟨gw,st.i*4+2,none⟩=some (.string (dD T st.i).f)/\w.cell? ⟨gw,st.i*4+3,none⟩=some (Qc (dD T st.i).a):=
 ⟨h.word 0 Oa,h.word 1 Oa,h.word 2 Oa,h.word 3 Oa⟩
theorem bOK(x y:ByteArray):(x.toList==y.toList)=decide (x=y):=by
 grind[Lib.toList_data,ByteArray.ext,Array.ext']
theorem bNE(s:ByteArray)(h:PW H O U gw cw T st Y vI V w):Calls prog 102 #[Qd O,.string s] w fun e g=>e= .returned (.bool (qat T st s))/\∃ n,g=w.drewN n:=by
 obtain⟨k,l,_,_,_,_,_⟩:=h.cells;obtain⟨m,_,o,_⟩:=h.w4;have j:=h.lt;have i:=h.few;have hi:0<=(st.i:Int)/\(st.i:Int) < (T.length:Int):=Oa
 obtain⟨R,a⟩:∃ R,R=qat T st s:=⟨_,rfl⟩;rw[<-a];unfold qat at a;have d:=bOK (dD T st.i).f s
 by_cases b:(dD T st.i).d=3
 ·have f:((dD T st.i).d==3)=true:=by simp[b]
  have c:Hid (R=((dD T st.i).f.toList==s.toList)):=by rw[Hid,a,d,decide_eq_true b,Bool.true_and]
  clear a b h d;go_enter func102,ntmps102
  go_upto_region 1 with fail
  go_quiet (fail)
  go_wp2;go_ret;rw[c.o];exact⟨rfl,_,rfl⟩
 ·have f:((dD T st.i).d==3)=false:=by simp[b]
  have c:Hid (R=false):=by rw[Hid,a,decide_eq_false b,Bool.false_and]
  clear a b h d;go_enter func102,ntmps102
  go_upto_region 1 with fail
  go_quiet (fail)
  go_wp2;go_ret;rw[c.o];exact⟨rfl,_,rfl⟩
theorem bU4(s:ByteArray)(g:s.size<=1000)(h:PW H O U gw cw T st Y vI V w):Calls prog 230 #[Qd O,.string s] w fun e j=>e= .returned (.bool (bNR T st s))/\∃ n,j=w.drewN n:=by
 obtain⟨m,o,_,_,_,_,_⟩:=h.cells;obtain⟨p,_,q,_⟩:=h.w4;have l:=h.lt;have k:=h.few;have hi:0<=(st.i:Int)/\(st.i:Int) < (T.length:Int):=Oa
 obtain⟨R,a⟩:∃ R,R=bNR T st s:=⟨_,rfl⟩;rw[<-a];unfold bNR at a;have f:=fun w=>bZC (dD T st.i).f s w g
 by_cases b:(dD T st.i).d=3
 ·have i:((dD T st.i).d==3)=true:=by simp[b]
  have d:Hid (R=inQ (dD T st.i).f s):=by rw[Hid,a,decide_eq_true b,Bool.true_and]
  clear a b h;go_enter func230,ntmps230
  go_upto_region 1 with fail
  go_quiet ((go_at_call 165;exact Calls.quiet_of_same ((f _).mono fun _ _ c=>⟨c.1,c.2.symm⟩)))
  go_wp2;go_ret;rw[d.o];exact⟨rfl,_,rfl⟩
 ·have i:((dD T st.i).d==3)=false:=by simp[b]
  have d:Hid (R=false):=by rw[Hid,a,decide_eq_false b,Bool.false_and]
  clear a b h;go_enter func230,ntmps230
  go_upto_region 1 with fail
  go_quiet ((go_at_call 165;exact Calls.quiet_of_same ((f _).mono fun _ _ c=>⟨c.1,c.2.symm⟩)))
  go_wp2;go_ret;rw[d.o];exact⟨rfl,_,rfl⟩
end
section
variable {H O U gw cw:Nat} {T:List Tok} {st:QS} {Y vI:Value} {V:List V3} {w w':World}
theorem PW.lt_pb(h:PW H O U gw cw T st Y vI V w):O < w.1.size:=(Oo h.par)
theorem PW.put(h:PW H O U gw cw T st Y vI V w){st':QS}(a:Ex O w w')(d:st'.L=st.L)(c:st'.c=st.c)(b:st'.i < T.length)(e:w'.1[O]?=some (Qf #[Qe gw T.length cw,Qc st'.i,Qc st'.op,Qc st'.a,Qc st'.e,Qd U] 126)):PW H O U gw cw T st' Y vI V w'/\Ex O w w':=
 ⟨h.turn d c b e a.block,a⟩
theorem PW.stay(h:PW H O U gw cw T st Y vI V w)(a:Ex O w w')(b:w'.1[O]?=w.1[O]?):PW H O U gw cw T st Y vI V w'/\Ex O w w':=h.put a rfl rfl h.lt (b.t h.par)
theorem PW.drewN(h:PW H O U gw cw T st Y vI V w)(n:Nat):PW H O U gw cw T st Y vI V (w.drewN n):=h.same Od
theorem bPA(h:PW H O U gw cw T st Y vI V w):Calls prog 108 #[Qd O] w fun e g=>e= .returned (.tuple #[])/\PW H O U gw cw T (bLH T st) Y vI V g/\Ex O w g:=by
 obtain⟨m,n,_,o,p,_,d⟩:=h.cells;obtain⟨_,q,_,_⟩:=h.w4;have l:=h.lt;have k:=h.few;have hi:0<=(st.i:Int)/\(st.i:Int) < (T.length:Int):=Oa
 have f3:=d 3;have j:=d 4
 by_cases b:st.a=0
 ·have f:Hid (bLH T st={st with a:=2,e:=(dD T st.i).e}):=if_pos b;have i:(st.a==0)=true:=by simp[b]
  have c:Hid (PW H O U gw cw T st Y vI V w):=h;clear b h d;go_enter func108,ntmps108
  go_upto_region 1 with fail
  go_region
  all_goals go_wp2
  all_goals go_end0
  rw[f.o];exact⟨rfl,c.o.put (((Ex.refl O w).drew.set 3 _).set 4 _) rfl rfl c.o.lt (aM _ (aM _ c.o.par))⟩
 ·have f:Hid (bLH T st=st):=if_neg b;have i:(st.a==0)=false:=by simp[b]
  have c:Hid (PW H O U gw cw T st Y vI V w):=h;clear b h d;go_enter func108,ntmps108
  go_wp2;go_end0
  rw[f.o];exact⟨rfl,c.o,Ex.refl O w⟩
theorem bMS(h:PW H O U gw cw T st Y vI V w):Calls prog 103 #[Qd O] w fun e D=>e= .returned (dD T st.i).g/\PW H O U gw cw T (bKV T st) Y vI V D/\Ex O w D:=by
 obtain⟨R,C,_,_,_,_,q⟩:=h.cells;obtain⟨c,j,k,l⟩:=h.w4;have a3:=h.lt;have a1:=h.few;have I:=h.lt_pb;have a2:gw < w.1.size:=Qp w _ c;have hi:0<=(st.i:Int)/\(st.i:Int) < (T.length:Int):=Oa
 have a4:IntKind.i64.wrap ((st.i:Int)+1)=(st.i:Int)+1:=IntWalk.i64_in _ Oa;have r:=h.ends
 have x:(dD T st.i).d≠0->st.i+1 < T.length:=fun b=>by
  by_cases F:st.i=T.length - 1
  ·rw[<-F]at r;exact absurd r b
  ·omega
 have B:Hid (bKV T st=if(dD T st.i).d≠0 then {st with i:=st.i+1}else st):=rfl;have p:Hid (PW H O U gw cw T st Y vI V w):=h;clear h r q;generalize G:dD T st.i=t at*;clear G;go_enter func103,ntmps103
 go_wp2;go_region
 have hsz:(w.alloc (Qf #[Qc 0,Qc 0,.string (ByteArray.mk #[]),Qc 0] 220)).1.size=w.1.size+1:=Od
 have o:((w.alloc (Qf #[Qc 0,Qc 0,.string (ByteArray.mk #[]),Qc 0] 220)).alloc (Qf #[Qc t.d,Qc t.e,.string t.f,Qc t.a] 220)).drew.1[w.1.size]?=some (Qf #[Qc 0,Qc 0,.string (ByteArray.mk #[]),Qc 0] 220):=
  (On (by rw[hsz];omega)).t (Qk w _)
 have f:((w.alloc (Qf #[Qc 0,Qc 0,.string (ByteArray.mk #[]),Qc 0] 220)).alloc (Qf #[Qc t.d,Qc t.e,.string t.f,Qc t.a] 220)).drew.1[w.1.size+1]?=some (Qf #[Qc t.d,Qc t.e,.string t.f,Qc t.a] 220):=by
  have:=Qk (w.alloc (Qf #[Qc 0,Qc 0,.string (ByteArray.mk #[]),Qc 0] 220)) (Qf #[Qc t.d,Qc t.e,.string t.f,Qc t.a] 220);rw[hsz]at this;exact this
 have y:=(((Ex.refl O w).alloc (Qf #[Qc 0,Qc 0,.string (ByteArray.mk #[]),Qc 0] 220)).alloc (Qf #[Qc t.d,Qc t.e,.string t.f,Qc t.a] 220)).drew;have u:((w.alloc (Qf #[Qc 0,Qc 0,.string (ByteArray.mk #[]),Qc 0] 220)).alloc (Qf #[Qc t.d,Qc t.e,.string t.f,Qc t.a] 220)).drew.1[O]?=w.1[O]?:=(On (by rw[hsz];omega)).t (On I);clear hsz R C c j k l;generalize ((w.alloc (Qf #[Qc 0,Qc 0,.string (ByteArray.mk #[]),Qc 0] 220)).alloc (Qf #[Qc t.d,Qc t.e,.string t.f,Qc t.a] 220)).drew=W at*;have d:=p.o.stay y u;obtain⟨_,C,_,_,_,_,q⟩:=d.1.cells;have f1:=q 1;have a:w.1.size≠O:=Oa
 have J:w.1.size+1≠O:=Oa
 clear q
 by_cases b:t.d=0
 ·have s:Hid (bKV T st=st):=by rw[Hid,B.o,if_neg (by simp[b])]
  have S:(t.d !=0)=false:=by simp[b]
  obtain⟨M,N,P,Q,z⟩:=dG f;obtain⟨z0,z1,z2,z3,n⟩:=dG o;have a9:=n 0;have b1:=n 1;have b2:=n 2;have b3:=n 3;obtain⟨c,j,k,l⟩:=aEJ (u0:= Qc t.d) (u1:= Qc t.e) (u2:= .string t.f) (u3:= Qc t.a) z0 z1 z2 z3;have g:Hid (PW H O U gw cw T st Y vI V W/\Ex O w W):=d;clear b d u y o f n z x;go_wp2;refine bodyPost_ret (v:=t.g) (by simp[results,results103,go_sem,c,j,k,l,Tok.g]) rfl ⟨rfl,?_⟩;rw[s.o];have K:=((((g.o.2.J Ol 0 (Qc t.d)).J Ol 1 (Qc t.e)).J Ol 2 (.string t.f)).J Ol 3 (Qc t.a));exact p.o.stay K (((Om a.symm).t ((Om a.symm).t ((Om a.symm).t (Om a.symm)))).t (g.o.1.par.t p.o.par.symm))
 ·have s:Hid (bKV T st={st with i:=st.i+1}):=by rw[Hid,B.o,if_pos b]
  have S:(t.d !=0)=true:=by simp[b]
  have g0:(W.setCell ⟨O,1,none⟩ (Qc (↑st.i+1))).1[w.1.size]?=_:=(Om a).t o;obtain⟨X,Z,y2,y3,m⟩:=dG g0;have a5:=m 0;have a6:=m 1;have a7:=m 2;have a8:=m 3;have A:(W.setCell ⟨O,1,none⟩ (Qc (↑st.i+1))).1[w.1.size+1]?=_:=(Om J).t f;obtain⟨k0,k1,k2,k3,L⟩:=dG A;obtain⟨M,N,P,Q,z⟩:=dG f;obtain⟨c,j,k,l⟩:=aEJ (u0:= Qc t.d) (u1:= Qc t.e) (u2:= .string t.f) (u3:= Qc t.a) X Z y2 y3;have g:Hid (PW H O U gw cw T st Y vI V W/\Ex O w W):=d;have E:Hid (st.i+1 < T.length):=x b;clear g0 A b d u y o f L m z x;go_wp2;refine bodyPost_ret (v:=t.g) (by simp[results,results103,go_sem,c,j,k,l,Tok.g]) rfl ⟨rfl,?_⟩;rw[s.o];refine p.o.put (((((g.o.2.set 1 _).J Ol 0 _).J Ol 1 _).J Ol 2 _).J Ol 3 _) rfl rfl E.o ?_;exact(((Om a.symm).t ((Om a.symm).t ((Om a.symm).t (Om a.symm)))).t (aM _ g.o.1.par))
end
section
variable {H O U gw cw:Nat} {T:List Tok} {st:QS} {Y vI:Value} {V:List V3} {w w':World}
theorem bNY(s:ByteArray)(h:PW H O U gw cw T st Y vI V w):Calls prog 105 #[Qd O,.string s] w fun e b=>e= .returned (.tuple #[])/\PW H O U gw cw T (bL1 T s st) Y vI V b/\Ex O w b:=by
 obtain⟨_,_,_,i,_,_,_⟩:=h.cells
 by_cases a:st.a=0
 ·have g:(st.a !=0)=false:=by simp[a]
  cases hb:qat T st s
  ·have c:Hid (bL1 T s st=bLH T st):=by unfold Hid bL1;rw[if_neg (by simp[a]),hb];rfl
   clear a;go_enter func105,ntmps105
   go_wp2_with (first|(go_at_call 102;refine(bNE s h).mono ?_;rintro e b ⟨rfl,n,rfl⟩;rw[hb])|(go_at_call 108;refine(bPA (h.drewN _)).mono ?_;rintro e b ⟨rfl,f,d⟩))
   refine bodyPost_ret (results_none rfl _ _ _) rfl ?_;rw[c.o];exact⟨rfl,f,((Ex.refl O w).drewN _).t d⟩
  ·have c:Hid (bL1 T s st=bKV T st):=by unfold Hid bL1;rw[if_neg (by simp[a]),hb];rfl
   clear a;go_enter func105,ntmps105
   go_wp2_with (first|(go_at_call 102;refine(bNE s h).mono ?_;rintro e b ⟨rfl,n,rfl⟩;rw[hb])|(go_at_call 103;refine(bMS (h.drewN _)).mono ?_;rintro e b ⟨rfl,f,d⟩))
   go_end0
   rw[c.o];exact⟨rfl,f,((Ex.refl O w).drewN _).t d⟩
 ·have g:(st.a !=0)=true:=by simp[a]
  have c:Hid (bL1 T s st=st):=if_pos a;clear a;go_enter func105,ntmps105
  go_wp2_with (go_at_call 102;refine(bNE s h).mono ?_;rintro e b ⟨rfl,n,rfl⟩)
  refine bodyPost_ret (results_none rfl _ _ _) rfl ?_;rw[c.o];exact⟨rfl,h.drewN _,(Ex.refl O w).drewN _⟩
theorem bPP(s:ByteArray)(h:PW H O U gw cw T st Y vI V w):Calls prog 168 #[Qd O,.string s] w fun e a=>e= .returned (.tuple #[])/\PW H O U gw cw T (bL0 T s st) Y vI V a/\Ex O w a:=by
 obtain⟨_,_,j,_,_,_,c⟩:=h.cells;have i:=c 2;have g:Hid (bL0 T s st=bL1 T s {st with op:=wrap64 (st.op - 1)}):=rfl;have b:=h.put (st':={st with op:=wrap64 (st.op - 1)}) ((Ex.refl O w).set 2 (Qc (wrap64 (st.op - 1)))) rfl rfl h.lt (aM _ h.par);clear h c;go_enter func168,ntmps168
 go_wp2_with (go_at_call 105;refine(bNY s b.1).mono ?_;rintro e a ⟨rfl,f,d⟩)
 go_end0
 rw[g.o];exact⟨rfl,f,b.2.t d⟩
theorem bPQ(s:ByteArray)(h:PW H O U gw cw T st Y vI V w):Calls prog 167 #[Qd O,.string s] w fun e f=>e= .returned (.tuple #[])/\PW H O U gw cw T (bKW T s st) Y vI V f/\Ex O w f:=by
 obtain⟨x,y,z,A,B,_,i⟩:=h.cells;obtain⟨_,C,_,_⟩:=h.w4;have o:=h.lt;have v:=h.few;have hi:0<=(st.i:Int)/\(st.i:Int) < (T.length:Int):=Oa
 have t:=i 2;have f3:=i 3;have u:=i 4
 by_cases b:qat T st s=true/\st.a=0/\st.op=10
 ·have m:Hid (bKW T s st=bL1 T s {st with a:=6,e:=(dD T st.i).e,op:=wrap64 (st.op+1)}):=by unfold Hid bKW;rw[if_pos b]
  have c:=b.1;have p:(st.a==0)=true:=by simp[b.2.1]
  have r:(st.op==10)=true:=by simp[b.2.2]
  have d:Hid (PW H O U gw cw T st Y vI V w):=h;clear b i h;go_enter func167,ntmps167
  go_upto_region 2 with(go_at_call 102;refine(bNE s d.o).mono ?_;rintro e f ⟨rfl,n,rfl⟩;rw[c])
  go_region
  all_goals go_wp2_with fail
  have g:=d.o.put (st':={st with a:=6,e:=(dD T st.i).e,op:=wrap64 (st.op+1)}) (((((Ex.refl O w).drewN (n+1)).set 3 (Qc 6)).set 4 (Qc (dD T st.i).e)).set 2 (Qc (wrap64 (st.op+1)))) rfl rfl o (aM _ (aM _ (aM _ d.o.par)));refine(bNY s g.1).mono ?_;rintro e f ⟨rfl,l,k⟩;go_wp2;go_end0
  rw[m.o];exact⟨rfl,l,g.2.t k⟩
 ·have m:Hid (bKW T s st=bL1 T s {st with op:=wrap64 (st.op+1)}):=by unfold Hid bKW;rw[if_neg b]
  have d:Hid (PW H O U gw cw T st Y vI V w):=h
  have q:(qat T st s=false)\/(qat T st s=true/\(st.a==0)=false)\/(qat T st s=true/\(st.a==0)=true/\(st.op==10)=false):=by
   cases c:qat T st s
   ·exact .l rfl
   ·by_cases j:st.a=0
    ·exact .r (.r ⟨rfl,by simp[j],by simpa using fun e=>b ⟨c,j,e⟩⟩)
    ·exact .r (.l ⟨rfl,by simp[j]⟩)
  clear b i h;rcases q with c|⟨c,p⟩|⟨c,p,r⟩
  all_goals
   go_enter func167,ntmps167
   go_wp2_with (go_at_call 102;refine(bNE s d.o).mono ?_;rintro e f ⟨rfl,n,rfl⟩;rw[c])
   have g:=d.o.put (st':={st with op:=wrap64 (st.op+1)}) (((Ex.refl O w).drewN n).set 2 (Qc (wrap64 (st.op+1)))) rfl rfl o (aM _ d.o.par);refine(bNY s g.1).mono ?_;rintro e f ⟨rfl,l,k⟩;go_wp2;go_end0
   rw[m.o];exact⟨rfl,l,g.2.t k⟩
end
section
variable {H O U gw cw:Nat} {T:List Tok} {st:QS} {Y B vI:Value} {V C:List V3} {w w':World}
structure Off(O U gw:Nat)(Y vI:Value)(V:List V3)(k:Nat):Prop where
 p:k≠O
 g:k≠U
 t:k≠gw
 l:Y.ownBlock≠some k
 i:vI.ownBlock≠some k
 u: ¬bOJ V k
theorem bLP{n d:Nat}{e:TypeId}{v:Value}{f:List Value}(b:w.ownsRow H e d v n f){k:Nat}(a:v.ownBlock=some k):k < w.1.size:=by
 obtain⟨⟨c,g⟩,_⟩:=bEH b a
 grind
theorem PW.used_lt(h:PW H O U gw cw T st Y vI V w){k:Nat}(a:bOJ V k):k < w.1.size:=by
 obtain⟨⟨c,b⟩,_⟩:=h.c.typ a
 grind
theorem PW.fresh(h:PW H O U gw cw T st Y vI V w){k:Nat}(a:w.1.size<=k):Off O U gw Y vI V k:=
 ⟨fun e=>absurd h.lt_pb Oa,fun e=>absurd (Oo h.prog) Oa,fun e=>absurd (bLP h.words (k:=gw) rfl) Oa,fun e=>absurd (bLP h.nodes e) Oa,fun e=>absurd (bLP h.its e) Oa,fun e=>absurd (h.used_lt e) Oa⟩
theorem Off.px{k:Nat}(a:Off O U gw Y vI V k)(b:Px O U Y B V C w w')(c:k < w.1.size):Off O U gw B vI C k:=
 ⟨a.p,a.g,a.t,fun e=>(b.row k e).elim a.l Oa,a.i,fun e=>(b.used k e).elim a.u Oa⟩
theorem PW.other(h:PW H O U gw cw T st Y vI V w){k:Nat}(a:Off O U gw Y vI V k)(b:∀ j,j < w.1.size->j≠k->w'.1[j]?=w.1[j]?):PW H O U gw cw T st Y vI V w':=by
 have c:∀ {n d:Nat} {e:TypeId} {v:Value} {f:List Value},w.ownsRow H e d v n f->v.ownBlock≠some k->w'.ownsRow H e d v n f:=(by grind[cD,bLP]);exact⟨c h.words (fun e=>a.t (by grind[Value.ownBlock])),(b O h.lt_pb a.p.symm).t h.par,(b U (Oo h.prog) a.g.symm).t h.prog,c h.nodes a.l,c h.its a.i,h.c.move (fun j g=>b j (h.used_lt g) (fun e=>a.u Qg)),h.lt,h.few,h.ends,h.off⟩
theorem PW.U(h:PW H O U gw cw T st Y vI V w){k:Nat}(a:Off O U gw Y vI V k)(o:Nat)(v:Value):PW H O U gw cw T st Y vI V (w.setCell ⟨k,o,none⟩ v):=
 h.other a (by grind[Below.heap_setCell])
theorem PW.alloc(h:PW H O U gw cw T st Y vI V w)(o:Obj):PW H O U gw cw T st Y vI V (w.alloc o):=h.same (by grind[Below.heap_alloc])
theorem Px.I(a:Ex O w w'):Px O U Y Y V V w w':=Px.of_turn ⟨a.os,a.tape,a.output,a.size⟩ a.block
theorem Px.J(h:Px O U Y B V C w w'){k:Nat}(d:w.1.size<=k)(o:Nat)(v:Value):Px O U Y B V C w (w'.setCell ⟨k,o,none⟩ v):=
 ⟨h.os,h.tape,h.output,Qm h.size Od,fun i hi a b c=>(Om (by show i≠k;omega)).t (h.keep i hi a b c),h.row,h.used⟩
theorem Px.alloc(h:Px O U Y B V C w w')(o:Obj):Px O U Y B V C w (w'.alloc o):=
 ⟨h.os,h.tape,h.output,Qm h.size Od,fun i hi a b c=>(On (Nat.lt_of_lt_of_le hi h.size)).t (h.keep i hi a b c),h.row,h.used⟩
theorem Px.drewN(h:Px O U Y B V C w w')(n:Nat):Px O U Y B V C w (w'.drewN n):=⟨h.os,h.tape,h.output,h.size,h.keep,h.row,h.used⟩
def Aft(H O U gw cw:Nat)(T:List Tok)(vI Y:Value)(V:List V3)(w:World)(q:QS)(w':World):Prop:=∃ B C,PW H O U gw cw T q B vI C w'/\Px O U Y B V C w w'
theorem Aft.of{q:QS}(b:PW H O U gw cw T q Y vI V w')(a:Ex O w w'):Aft H O U gw cw T vI Y V w q w':=⟨Y,V,b,Px.I a⟩
abbrev bVD:Obj:= Qf #[Qc 0,Qc 0,.string (ByteArray.mk #[]),Qc 0] 220
theorem bPT(k:Int)(h:PW H O U gw cw T st Y vI V w):Calls prog 104 #[Qd O,Qc k] w fun e E=>e= .returned (bL9 T k st).g/\PW H O U gw cw T (bL6 T k st) Y vI V E/\Ex O w E:=by
 obtain⟨A,D,_,_,_,_,_⟩:=h.cells;obtain⟨n,_,_,_⟩:=h.w4;have N:=h.lt;have L:=h.few;have P:=h.lt_pb;have M:gw < w.1.size:=Qp w _ n;have hi:0<=(st.i:Int)/\(st.i:Int) < (T.length:Int):=Oa
 have c:=h.fresh Ol;have z:w.1.size≠O:=Oa
 by_cases b:(dD T st.i).d=k
 ·have F:((dD T st.i).d !=k)=false:=by simp[b]
  have l:Hid (bL6 T k st=bKV T st):=if_neg (by simp[b]);have g:Hid (bL9 T k st=dD T st.i):=if_neg (by simp[b]);have i:Hid (PW H O U gw cw T st Y vI V w):=h;clear b h;go_enter func104,ntmps104
  go_upto_region 1 with fail
  go_quiet (fail)
  go_wp2_with fail
  refine(bMS ((i.o.alloc bVD).drewN _)).mono ?_;rintro e m ⟨rfl,j,d⟩;have f:m.1[w.1.size]?=some (Qf #[Qc 0,Qc 0,.string (ByteArray.mk #[]),Qc 0] 220):=(d.block _ Od z).t (Qk w _);obtain⟨o,p,q,r,a⟩:=dG f;have G:=a 0;have I:=a 1;have J:=a 2;have K:=a 3;generalize dD T st.i=t at*;unfold Tok.g;obtain⟨s,u,x,y⟩:=aEJ (u0:= Qc t.d) (u1:= Qc t.e) (u2:= .string t.f) (u3:= Qc t.a) o p q r;clear A D n f a;go_wp2;refine bodyPost_ret (v:=t.g) (by simp[results,results104,go_sem,s,u,x,y,Tok.g]) rfl ⟨by rw[g.o],?_,?_⟩
  ·rw[l.o];exact(((j.U c 0 _).U c 1 _).U c 2 _).U c 3 _
  ·exact(((((((Ex.refl O w).alloc bVD).drewN _).t d).J Ol 0 _).J Ol 1 _).J Ol 2 _).J Ol 3 _
 ·have F:((dD T st.i).d !=k)=true:=by simp[b]
  have l:Hid (bL6 T k st=bLH T st):=if_pos b;have g:Hid (bL9 T k st=aD6):=if_pos b;have i:Hid (PW H O U gw cw T st Y vI V w):=h;clear b h;go_enter func104,ntmps104
  go_upto_region 1 with fail
  go_quiet (fail)
  go_wp2_with fail
  refine(bPA ((i.o.alloc bVD).drewN _)).mono ?_;rintro e m ⟨rfl,j,d⟩;have f:m.1[w.1.size]?=some (Qf #[Qc 0,Qc 0,.string (ByteArray.mk #[]),Qc 0] 220):=(d.block _ Od z).t (Qk w _);obtain⟨o,p,q,r,a⟩:=dG f;have G:=a 0;have I:=a 1;have J:=a 2;have K:=a 3;obtain⟨s,u,x,y⟩:=aEJ (u0:= Qc 0) (u1:= Qc 0) (u2:= .string (ByteArray.mk #[])) (u3:= Qc 0) o p q r;clear A D n f a;go_wp2;refine bodyPost_ret (v:=aD6.g) (by simp[results,results104,go_sem,s,u,x,y,aD6,Tok.g]) rfl ⟨by rw[g.o],?_,?_⟩
  ·rw[l.o];exact(((j.U c 0 _).U c 1 _).U c 2 _).U c 3 _
  ·exact(((((((Ex.refl O w).alloc bVD).drewN _).t d).J Ol 0 _).J Ol 1 _).J Ol 2 _).J Ol 3 _
end
section
variable {H O U gw cw:Nat} {T:List Tok} {st:QS} {Y B vI:Value} {V C:List V3} {w w':World}
theorem info73:(prog.info? 73).map (fun i=>(i.zero,i.size,i.bytes))=some (some (.agg #[Qc 0,Qc 0,.string (ByteArray.mk #[]),Qc 0,Qc 0,.slice none 0 0,.slice none 0 0,.slice none 0 0,Qc 0,Qc 0,Qc 0]),11,144):=by kernel_rfl
def NdA(a:NQ)(v:V3):Value:= .agg #[Qc a.d,Qc a.at_,.string a.s,Qc a.n,Qc a.mid,v.1,v.2.1,v.2.2,Qc a.b,Qc a.ref,Qc a.f]
theorem bL5{n d:Nat}{e t:TypeId}{v:Value}{f:List Value}(b:w.ownsRow H e d v n f){k:Nat}{cs:Array Value}(h:w.1[k]?=some (.cells cs t (0,0)))(i:e≠t):v.ownBlock≠some k:=fun a=>by
 obtain⟨⟨c,g⟩,_⟩:=bEH b a
 grind
theorem PW.T(h:PW H O U gw cw T st Y vI V w):H<=w.1.size:=by
 obtain⟨_,a⟩:=bEH h.words (k:=gw) rfl
 grind
theorem bSY{n b:Nat}{e:TypeId}{v:Value}{c:List Value}(a:w.ownsRow H e b v n c):v.oneCell'=true:=by
 rcases a.2 with⟨rfl,_⟩|⟨_,_,_,rfl,_⟩<;>rfl
theorem PW.pushed(h:PW H O U gw cw T st Y vI V w){a:NQ}{v:V3}{w1 w2:World}{g J:Nat}(q:NdW H w a v)(R:∀ k,vI.ownBlock=some k->¬bM7 v k)(l:Ex O w w1)(M:∀ k,k < w.1.size->w1.1[k]?=w.1[k]?)(Q:w2.ownsRow H 73 11 (Qe g (st.L.length+1) J) (st.L.length+1) (bMY st.L V++NdV {a with f:=-1} v))(d:w1.grownBy w2 Y.ownBlock)(I:Y.ownBlock=some g\/g=w1.1.size):
 PW H O U gw cw T (bL2 a st) (Qe g (st.L.length+1) J) vI (V++[v]) (w2.setCell ⟨U,0,none⟩ (Qe g (st.L.length+1) J))/\Px O U Y (Qe g (st.L.length+1) J) V V w (w2.setCell ⟨U,0,none⟩ (Qe g (st.L.length+1) J)):=by
 have G:U < w.1.size:=(Oo h.prog);have S:=l.size;have old:∀ k,k < w.1.size->Y.ownBlock≠some k->w2.1[k]?=w.1[k]?:=fun k p P=>(d.block k Oa Qg).t Qh;have n:∀ k,k < w.1.size->Y.ownBlock≠some k->k≠U->∀ u,(w2.setCell ⟨U,0,none⟩ u).1[k]?=w.1[k]?:=(by grind[Below.heap_setCell])
 have i:∀ {s t:Nat} {e:TypeId} {x:Value} {y:List Value},w.ownsRow H e t x s y->e≠73->e≠76->∀ u,(w2.setCell ⟨U,0,none⟩ u).ownsRow H e t x s y:=fun r L A u=>cD r (fun m o=>by
  obtain⟨⟨c,b⟩,_⟩:=bEH r o;exact n m Qg (bL5 h.nodes b Qg) (bEF b h.prog A) u)
 have E:∀ u,bMQ H (w2.setCell ⟨U,0,none⟩ u) st.L V:=fun u=>h.c.move (fun m o=>by
  obtain⟨⟨c,b⟩,_⟩:=h.c.typ o;rcases b with b|b
  ·exact n m Qg (bL5 h.nodes b Ob) (bEF b h.prog Ob) u
  ·exact n m Qg (bL5 h.nodes b Ob) (bEF b h.prog Ob) u)
 have D:∀ u,NdW H (w2.setCell ⟨U,0,none⟩ u) {a with f:=-1} v:=fun u=>⟨i q.k Ob Ob u,i q.p Ob Ob u,i q.h Ob Ob u⟩;have z:=n O h.lt_pb (bL5 h.nodes h.par Ob) (bEF h.par h.prog Ob)
 have N:g≠U:=by
  rcases I with e|e
  ·exact fun K=>bL5 h.nodes h.prog Ob Qh
  ·omega
 refine⟨⟨i h.words Ob Ob _,(z _).t h.par,aM _ ((old U G (bL5 h.nodes h.prog Ob)).t h.prog),?_,i h.its Ob Ob _,bMQ.snoc (E _) (D _),h.lt,h.few,h.ends,fun k p=>?_⟩,⟨d.os.t l.os,d.tape.t l.tape,d.output.t l.output,?_,Qg,fun k p=>?_,Qg⟩⟩
 ·show(w2.setCell _ _).ownsRow H 73 11 _ (st.L++[_]).length (bMY (st.L++[_]) (V++[v]));rw[bMY.snoc h.c.len,List.length_append]
  grind[Value.ownBlock,cD,Below.heap_setCell]
 ·rintro⟨u,j,F⟩;rcases List.mem_append.1 j with j|j
  ·exact h.off k p ⟨u,j,F⟩
  grind
 ·have:=d.size
  grind[World.setCell]
 grind[Value.ownBlock]
abbrev ndC(a:NQ)(v:V3):Array Value:=#[Qc a.d,Qc a.at_,.string a.s,Qc a.n,Qc a.mid,v.1,v.2.1,v.2.2,Qc a.b,Qc a.ref,Qc a.f]
theorem bOI(a:NQ)(v:V3)(h:PW H O U gw cw T st Y vI V w)(d:NdW H w a v)(l:∀ k,vI.ownBlock=some k->¬bM7 v k)(hn:st.L.length<=200000):
 Calls prog 106 #[Qd O,NdA a v] w fun e y=>e= .returned (Qc st.L.length)/\∃ B,PW H O U gw cw T (bL2 a st) B vI (V++[v]) y/\Px O U Y B V V w y:=by
 obtain⟨G,Q,N,M,L⟩:=info_parts info73;have a1:U < w.1.size:=(Oo h.prog);have a5:=h.lt_pb;have a6:=h.T;have a7:IntKind.i64.wrap ((st.L.length:Int)+1)=(st.L.length:Int)+1:=IntWalk.i64_in _ Oa;have a8:IntKind.i64.wrap ((st.L.length:Int)+1 - 1)=(st.L.length:Int):=by rw[Int.add_sub_cancel];exact IntWalk.i64_in _ Oa
 obtain⟨W,c⟩:∃ W,W=(w.alloc (Qf #[Qc a.d,Qc a.at_,.string a.s,Qc a.n,Qc a.mid,v.1,v.2.1,v.2.2,Qc a.b,Qc a.ref,Qc (-1)] 73)):=⟨_,rfl⟩;have g:PW H O U gw cw T st Y vI V W:=c ▸ h.alloc _;have b:W.1[w.1.size]?=some (.cells (ndC {a with f:=-1} v) 73 (0,0)):=c ▸ Qk w _;have m:Ex O w W:=c ▸ (Ex.refl O w).alloc _;have n:∀ k,k < w.1.size->W.1[k]?=w.1[k]?:=fun k p=>c ▸ On p;have o:W.1.size=w.1.size+1:=by rw[c];simp
 obtain⟨_,_,_,_,_,S,_⟩:=g.cells;have g0:W.cell? ⟨U,0,none⟩=some Y:=Og g.prog rfl
 have A:W.frozen? ⟨U,0,none⟩=false:=by simp[World.frozen?,g.prog]
 have D:w.frozen? ⟨U,0,none⟩=false:=by simp[World.frozen?,h.prog]
 have n0:W.cell? ⟨w.1.size,0,none⟩=some (Qc a.d):=cell_of_row _ _ _ _ _ _ b;have n1:W.cell? ⟨w.1.size,1,none⟩=some (Qc a.at_):=cell_of_row _ _ _ _ _ _ b;have n2:W.cell? ⟨w.1.size,2,none⟩=some (.string a.s):=cell_of_row _ _ _ _ _ _ b;have n3:W.cell? ⟨w.1.size,3,none⟩=some (Qc a.n):=cell_of_row _ _ _ _ _ _ b;have n4:W.cell? ⟨w.1.size,4,none⟩=some (Qc a.mid):=cell_of_row _ _ _ _ _ _ b;have n5:W.cell? ⟨w.1.size,5,none⟩=some v.1:=cell_of_row _ _ _ _ _ _ b;have n6:W.cell? ⟨w.1.size,6,none⟩=some v.2.1:=cell_of_row _ _ _ _ _ _ b;have n7:W.cell? ⟨w.1.size,7,none⟩=some v.2.2:=cell_of_row _ _ _ _ _ _ b;have n8:W.cell? ⟨w.1.size,8,none⟩=some (Qc a.b):=cell_of_row _ _ _ _ _ _ b;have n9:W.cell? ⟨w.1.size,9,none⟩=some (Qc a.ref):=cell_of_row _ _ _ _ _ _ b;have a9:W.cell? ⟨w.1.size,10,none⟩=some (Qc (-1)):=cell_of_row _ _ _ _ _ _ b;have j:U < W.1.size:=Oa
 have r:O < W.1.size:=Oa
 have a3:w.1.size < W.1.size:=Oa
 have Z:H<=W.1.size:=Oa
 have P:(W.alloc (.cells (ndC {a with f:=-1} v) 73)).drew.1[w.1.size+1]?=some (.cells (ndC {a with f:=-1} v) 73 (0,0)):=o ▸ Qk W _;have I:=g.nodes;have q:some U≠Y.ownBlock:=fun e=>bL5 h.nodes h.prog Ob e.symm;have z:some O≠Y.ownBlock:=fun e=>bL5 h.nodes h.par Ob e.symm
 have K:∀ x∈NdV {a with f:=-1} v,x.oneCell'=true:=by
  intro x s;simp only[NdV,List.mem_cons,List.not_mem_nil,or_false]at s;rcases s with rfl|rfl|rfl|rfl|rfl|rfl|rfl|rfl|rfl|rfl|rfl
  all_goals first|rfl|exact bSY d.k|exact bSY d.p|exact bSY d.h
 have F:Hid (PW H O U gw cw T st Y vI V w/\NdW H w a v/\(∀ k,vI.ownBlock=some k->¬bM7 v k)/\Ex O w W/\(∀ k,k < w.1.size->W.1[k]?=w.1[k]?)):=⟨h,d,l,m,n⟩;have a2:U≠O:=bEF h.prog h.par Ob;clear h d l m n g b;have u:Hid (W=(w.alloc (Qf #[Qc a.d,Qc a.at_,.string a.s,Qc a.n,Qc a.mid,v.1,v.2.1,v.2.2,Qc a.b,Qc a.ref,Qc (-1)] 73))):=c;clear c;unfold NdA;go_enter func106,ntmps106
 go_upto_region 2 with fail
 rw[<-u.o];clear u D
 go_region_law
  ((refine step_append_lies _ (by rfl) _ _ _ (by rfl) H 73 G _ 11 144 underlying74 Q N M L rfl Oa Y st.L.length (bMY st.L V) (by rfl) ((I.alloc _).drew)
     ⟨w.1.size+1,0,none⟩ 1 1 (NdV {a with f:=-1} v) (by rfl) (by rfl) (World.news_of_block (cs:=ndC {a with f:=-1} v) (t:=73) (fr:=(0,0)) P) K
     Oa (by unfold maxLen;omega) Oa (by simp;omega) (w.1.size+1+1) (by simp[o]) ?_;intro X J w1 E i R a4;have q1:=(i.cell_far ⟨O,5,none⟩ (kO r) z).t (sS r S);have q2:=(i.cell_far ⟨U,0,none⟩ (kO j) q).t (sS j g0);have q3:=(i.frozen_far ⟨U,0,none⟩ (kO j) q).t (xB j A)))
 all_goals go_wp2
 all_goals go_ret
 all_goals
  obtain⟨h,d,l,m,n⟩:=F.o;exact⟨rfl,_,h.pushed d l (m.alloc _).drew (fun k p=>(On Oa).t (n k p)) E i (R.imp id (fun e=>e.t (by simp[World.drew,o])))⟩
end
section
variable {H O U gw cw:Nat} {T:List Tok} {st:QS} {Y B vI:Value} {V C:List V3} {w w':World}
def bRN:ByteArray:=⟨#[60,32,60,61,32,62,32,62,61,32,61,61,32,33,61]⟩
def bMN(T:List Tok)(st:QS):QS:=if bNR T st bRN=true/\st.a=0 then bKV T st else bLH T st
def bNU(T:List Tok)(st:QS):ByteArray:=if bNR T st bRN=true/\st.a=0 then(dD T st.i).f else⟨#[]⟩
theorem bQ4(h:PW H O U gw cw T st Y vI V w):Calls prog 170 #[Qd O] w fun e d=>e= .returned (.string (bNU T st))/\PW H O U gw cw T (bMN T st) Y vI V d/\Ex O w d:=by
 obtain⟨_,_,_,q,_,_,_⟩:=h.cells;have p:ByteArray.mk #[60,32,60,61,32,62,32,62,61,32,61,61,32,33,61]=bRN:=rfl;have k:bRN.size<=1000:=Ob
 by_cases a:bNR T st bRN=true/\st.a=0
 ·have j:Hid (bMN T st=bKV T st):=if_pos a;have f:Hid (bNU T st=(dD T st.i).f):=if_pos a;have b:=a.1;have m:(st.a !=0)=false:=by simp[a.2]
  have c:Hid (PW H O U gw cw T st Y vI V w):=h;clear a h;go_enter func170,ntmps170
  go_wp2_with (go_at_call 230;refine(bU4 bRN k c.o).mono ?_;rintro e d ⟨rfl,n,rfl⟩;rw[b])
  refine(bMS (c.o.drewN _)).mono ?_;rintro e o ⟨rfl,i,g⟩;unfold Tok.g;go_wp2;go_ret;rw[j.o,f.o];exact⟨rfl,i.alloc _,(((Ex.refl O w).drewN _).t g).alloc _⟩
 ·have j:Hid (bMN T st=bLH T st):=if_neg a;have f:Hid (bNU T st=⟨#[]⟩):=if_neg a;have c:Hid (PW H O U gw cw T st Y vI V w):=h
  have l:bNR T st bRN=false\/(bNR T st bRN=true/\(st.a !=0)=true):=by
   cases b:bNR T st bRN
   ·exact .l rfl
   ·exact .r ⟨rfl,by simpa using fun e=>a ⟨b,e⟩⟩
  clear a h;rcases l with b|⟨b,m⟩
  all_goals
   go_enter func170,ntmps170
   go_wp2_with (go_at_call 230;refine(bU4 bRN k c.o).mono ?_;rintro e d ⟨rfl,n,rfl⟩;rw[b])
   refine(bPA (c.o.drewN _)).mono ?_;rintro e o ⟨rfl,i,g⟩;go_wp2;go_ret;rw[j.o,f.o];exact⟨rfl,i,((Ex.refl O w).drewN _).t g⟩
end
section
variable {H O U gw cw:Nat} {T:List Tok} {st:QS} {Y B vI:Value} {V C:List V3} {w w':World}
def v0:V3:=(.slice none 0 0,.slice none 0 0,.slice none 0 0)
theorem bP7(k:Nat): ¬bM7 v0 k:=by rintro(h|h|h)<;>simp[v0,Value.ownBlock]at h
theorem NdW.none{a:NQ}(b:a.c=[])(c:a.g=[])(d:a.e=[]):NdW H w a v0:=by
 refine⟨?_,?_,?_⟩
 ·rw[b];exact⟨rfl,.l Qj⟩
 ·rw[c];exact⟨rfl,.l Qj⟩
 ·rw[d];exact⟨rfl,.l Qj⟩
theorem Px.more(a:Px O U Y B V C w w'){v:V3}(d:∀ k,bM7 v k->w.1.size<=k):Px O U Y B V (C++[v]) w w':=
 ⟨a.os,a.tape,a.output,a.size,a.keep,a.row,fun k ⟨u,b,c⟩=>by
   rcases List.mem_append.1 b with b|b
   ·exact a.used k ⟨u,b,c⟩
   grind⟩
theorem bOF:(bLH T st).L=st.L:=by grind[bLH]
theorem bKY:(bKV T st).L=st.L:=by grind[bKV]
theorem bMO(k:Int):(bL6 T k st).L=st.L:=by grind[bL6,bOF,bKY]
def bLT:ByteArray:=⟨#[45]⟩
def bMA(T:List Tok)(st:QS):QS:=
 if qat T st bLT=true then bL2 {d:=3,at_:=(dD T st.i).e,n:=wrap64 (-(bL9 T 2 (bKV T st)).a)} (bL6 T 2 (bKV T st))
 else if(dD T st.i).d=2 then bL2 {d:=3,at_:=(dD T st.i).e,n:=(dD T st.i).a} (bKV T st)
 else bL2 {d:=4,at_:=(dD T st.i).e,s:=(bL9 T 1 st).f} (bL6 T 1 st)
theorem bYJ(h:PW H O U gw cw T st Y vI V w)(u:st.L.length<=200000):Calls prog 169 #[Qd O] w fun e r=>e= .returned (Qc st.L.length)/\Aft H O U gw cw T vI Y V w (bMA T st) r:=by
 obtain⟨E,F,_,_,_,_,_⟩:=h.cells;obtain⟨I,J,_,_⟩:=h.w4;have D:=h.lt;have A:=h.few;have hi:0<=(st.i:Int)/\(st.i:Int) < (T.length:Int):=Oa
 have b:Hid (PW H O U gw cw T st Y vI V w):=h;cases hb:qat T st bLT
 ·by_cases a:(dD T st.i).d=2
  ·have z:((dD T st.i).d==2)=true:=by simp[a]
   have p:Hid (bMA T st=bL2 {d:=3,at_:=(dD T st.i).e,n:=(dD T st.i).a} (bKV T st)):=by unfold Hid bMA;rw[hb,if_neg Od,if_pos a]
   clear a h;go_enter func169,ntmps169
   go_upto_region 1 with fail
   go_quiet (fail)
   go_upto_region 7 with(go_at_call 102;refine(bNE bLT (b.o.drewN _)).mono ?_;rintro e r ⟨rfl,n,rfl⟩;rw[hb])
   go_quiet (fail)
   go_wp2_with fail
   refine(bMS (b.o.drewN _)).mono ?_;rintro e v ⟨rfl,o,m⟩;have j:=((Ex.refl O w).drewN _).t m;unfold Tok.g;have l:(bKV T st).L=st.L:=bKY;generalize dD T st.i=t at*;have g:=o.alloc (Qf #[Qc t.d,Qc t.e,.string t.f,Qc t.a] 220);have i:=j.alloc (Qf #[Qc t.d,Qc t.e,.string t.f,Qc t.a] 220);go_wp2_with fail
   refine(bOI {d:=3,at_:=t.e,n:=t.a} v0 g (NdW.none rfl rfl rfl) (fun k _=>bP7 k) (l ▸ u)).mono ?_;rintro e w4 ⟨rfl,q,f,c⟩;go_wp2;go_ret;rw[p.o];exact⟨rfl,q,_,f,((Px.I i).t c).more (fun k a=>absurd a (bP7 k))⟩
  ·have z:((dD T st.i).d==2)=false:=by simp[a]
   have p:Hid (bMA T st=bL2 {d:=4,at_:=(dD T st.i).e,s:=(bL9 T 1 st).f} (bL6 T 1 st)):=by unfold Hid bMA;rw[hb,if_neg Od,if_neg a]
   clear a h;go_enter func169,ntmps169
   go_upto_region 1 with fail
   go_quiet (fail)
   go_upto_region 7 with(go_at_call 102;refine(bNE bLT (b.o.drewN _)).mono ?_;rintro e r ⟨rfl,n,rfl⟩;rw[hb])
   go_quiet (fail)
   go_wp2_with fail
   refine(bPT 1 (b.o.drewN _)).mono ?_;rintro e v ⟨rfl,o,m⟩;have j:=((Ex.refl O w).drewN _).t m;unfold Tok.g;have l:(bL6 T 1 st).L=st.L:=bMO 1;generalize bL9 T 1 st=t at*;have g:=o.alloc (Qf #[Qc t.d,Qc t.e,.string t.f,Qc t.a] 220);have i:=j.alloc (Qf #[Qc t.d,Qc t.e,.string t.f,Qc t.a] 220);go_wp2_with fail
   refine(bOI {d:=4,at_:=(dD T st.i).e,s:=t.f} v0 g (NdW.none rfl rfl rfl) (fun k _=>bP7 k) (l ▸ u)).mono ?_;rintro e w4 ⟨rfl,q,f,c⟩;go_wp2;go_ret;rw[p.o];exact⟨rfl,q,_,f,((Px.I i).t c).more (fun k a=>absurd a (bP7 k))⟩
 ·have p:Hid (bMA T st=bL2 {d:=3,at_:=(dD T st.i).e,n:=wrap64 (-(bL9 T 2 (bKV T st)).a)} (bL6 T 2 (bKV T st))):=by unfold Hid bMA;rw[hb,if_pos rfl]
  clear h;go_enter func169,ntmps169
  go_upto_region 1 with fail
  go_quiet (fail)
  go_wp2_with (go_at_call 102;refine(bNE bLT (b.o.drewN _)).mono ?_;rintro e r ⟨rfl,n,rfl⟩;rw[hb])
  refine(bMS (b.o.drewN _)).mono ?_;rintro e G ⟨rfl,x,y⟩;go_wp2_with fail
  refine(bPT 2 x).mono ?_;rintro e v ⟨rfl,o,m⟩;have j:=(((Ex.refl O w).drewN _).t y).t m;unfold Tok.g;have l:(bL6 T 2 (bKV T st)).L=st.L:=(bMO 2).t bKY;generalize bL9 T 2 (bKV T st)=t at*;have g:=o.alloc (Qf #[Qc t.d,Qc t.e,.string t.f,Qc t.a] 220);have i:=j.alloc (Qf #[Qc t.d,Qc t.e,.string t.f,Qc t.a] 220);go_wp2_with fail
  refine(bOI {d:=3,at_:=(dD T st.i).e,n:=wrap64 (-t.a)} v0 g (NdW.none rfl rfl rfl) (fun k _=>bP7 k) (l ▸ u)).mono ?_;rintro e w4 ⟨rfl,q,f,c⟩;go_wp2;go_ret;rw[p.o];exact⟨rfl,q,_,f,((Px.I i).t c).more (fun k a=>absurd a (bP7 k))⟩
end
section
variable {T:List Tok} {st a b c:QS} {m n:Nat}
structure Gr(st st':QS)(n:Nat):Prop where
 i:st.i<=st'.i
 stick:st.a≠0->st'.a=st.a/\st'.e=st.e
 room:st'.L.length+8*st.i<=st.L.length+8*st'.i+n
 c:st'.c=st.c
 pre:st.L <+:st'.L
 neg:(∀ a∈st.L,a.f < 0)->∀ a∈st'.L,a.f < 0
theorem Gr.refl(st:QS):Gr st st 0:=⟨Ql _,fun _=>⟨rfl,rfl⟩,Ql _,rfl,List.prefix_refl _,fun h=>h⟩
theorem Gr.t(h:Gr a b m)(k:Gr b c n):Gr a c (m+n):=
 ⟨Qm h.i k.i,fun f=>by
   obtain⟨d,g⟩:=h.stick f;obtain⟨i,j⟩:=k.stick (by rw[d];exact f);exact⟨i.t d,j.t g⟩,Qb h.room k.room,k.c.t h.c,h.pre.t k.pre,fun e=>k.neg (h.neg e)⟩
theorem Gr.le(h:Gr a b m)(d:m<=n):Gr a b n:=⟨h.i,h.stick,Qm h.room Oa,h.c,h.pre,h.neg⟩
theorem Gr.E(T:List Tok)(st:QS):Gr st (bLH T st) 0:=by
 unfold bLH
 split
 ·exact⟨Ql _,fun d=>absurd ‹_› d,Ql _,rfl,List.prefix_refl _,fun h=>h⟩
 ·exact Gr.refl st
theorem Gr.b(T:List Tok)(st:QS):Gr st (bKV T st) 0:=by
 unfold bKV
 split
 ·exact⟨Nat.le_succ _,fun _=>⟨rfl,rfl⟩,by show st.L.length+8*st.i<=st.L.length+8*(st.i+1)+0;omega,rfl,List.prefix_refl _,fun h=>h⟩
 ·exact Gr.refl st
theorem Gr.must(T:List Tok)(s:ByteArray)(st:QS):Gr st (bL1 T s st) 0:=by
 unfold bL1
 split
 ·exact Gr.refl st
 ·split
  ·exact Gr.b T st
  ·exact Gr.E T st
theorem Gr.opn(T:List Tok)(s:ByteArray)(st:QS):Gr st (bKW T s st) 0:=by
 unfold bKW;refine(Gr.t (m:=0) ?_ (Gr.must T s _)).le Ol
 split
 ·exact⟨Ql _,fun d=>absurd (by assumption:_/\st.a=0/\_).2.1 d,Ql _,rfl,List.prefix_refl _,fun h=>h⟩
 ·exact⟨Ql _,fun _=>⟨rfl,rfl⟩,Ql _,rfl,List.prefix_refl _,fun h=>h⟩
theorem Gr.H(T:List Tok)(s:ByteArray)(st:QS):Gr st (bL0 T s st) 0:=
 (Gr.t (a:=st) (b:={st with op:=wrap64 (st.op - 1)}) (m:=0) ⟨Ql _,fun _=>⟨rfl,rfl⟩,Ql _,rfl,List.prefix_refl _,fun h=>h⟩ (Gr.must T s _)).le Ol
theorem Gr.knd(T:List Tok)(k:Int)(st:QS):Gr st (bL6 T k st) 0:=by
 unfold bL6
 split
 ·exact Gr.E T st
 ·exact Gr.b T st
theorem bZQ(x:NQ)(st:QS)(e:∀ a∈st.L,a.f < 0):∀ a∈(bL2 x st).L,a.f < 0:=fun a d=>by
 rcases List.mem_append.1 d with h|h
 ·exact e a h
 ·rw[List.mem_singleton.1 h];show(-1:Int) < 0
  decide
theorem Gr.add(x:NQ)(st:QS):Gr st (bL2 x st) 1:=⟨Ql _,fun _=>⟨rfl,rfl⟩,by simp[bL2];omega,rfl,List.prefix_append _ _,bZQ _ _⟩
theorem Gr.comp(T:List Tok)(st:QS):Gr st (bMN T st) 0:=by
 unfold bMN
 split
 ·exact Gr.b T st
 ·exact Gr.E T st
theorem bMK(T:List Tok)(st:QS)(h:(dD T st.i).d≠0):(bKV T st).i=st.i+1:=by unfold bKV;rw[if_pos h]
theorem bNF{s:ByteArray}(h:qat T st s=true):(dD T st.i).d≠0:=by
 unfold qat at h;simp only[Bool.and_eq_true,decide_eq_true_eq]at h;omega
theorem bQ6{s:ByteArray}(h:bNR T st s=true):(dD T st.i).d≠0:=by
 unfold bNR at h;simp only[Bool.and_eq_true,decide_eq_true_eq]at h;omega
theorem Gr.paid(h:Gr a b n)(hi:a.i+1<=b.i)(k:Gr b c m)(e:n+m<=8)(d:b.L=a.L):Gr a c 0:=
 ⟨Qm h.i k.i,(h.t k).stick,by have:=k.room;rw[d]at this;omega,(h.t k).c,(h.t k).pre,(h.t k).neg⟩
def bRX:ByteArray:=⟨#[43,32,45]⟩
def bQN:ByteArray:=⟨#[42,32,47,32,37]⟩
def bL3:ByteArray:=⟨#[40]⟩
def bLV:ByteArray:=⟨#[41]⟩
def brT:ByteArray:=⟨#[91]⟩
def bOB:ByteArray:=⟨#[93]⟩
def bPJ:ByteArray:=⟨#[44]⟩
def bN5(T:List Tok)(P:QS->QS × Int)(G:ByteArray):Nat->Int->QS->QS × Int
 |0,x,st=>(st,x)
 |k+1,x,st=>if bNR T st G=true/\st.a=0 then
   bN5 T P G k (P (bKV T st)).1.L.length (bL2 {d:=8,at_:=(dD T st.i).e,s:=(dD T st.i).f,c:=[x,(P (bKV T st)).2]} (P (bKV T st)).1)
  else(st,x)
def bN4(T:List Tok)(P:QS->QS × Int)(G:ByteArray)(st:QS):QS × Int:=bN5 T P G T.length (P st).2 (P st).1
def qex(T:List Tok)(F:QS->QS × Int)(st:QS):QS × Int:=if st.a≠0 then(st,0)else bN4 T (bN4 T F bQN) bRX st
def bLK(T:List Tok)(E:QS->QS × Int):Nat->Bool->List Int->QS->QS × List Int
 |0,_,l,st=>(st,l)
 |k+1,more,l,st=>if more=true/\st.a=0 then
   bLK T E k (qat T (E st).1 bPJ) (l++[(E st).2]) (if qat T (E st).1 bPJ=true then bKV T (E st).1 else(E st).1)
  else(st,l)
def bP5(T:List Tok)(E:QS->QS × Int)(t:Tok)(st:QS):QS × Int:=
 if qat T st brT=true then
  let e:=E (bKW T brT st)
  (bL2 {d:=5,at_:=t.e,s:=t.f,c:=[e.2]} (bL0 T bOB e.1),e.1.L.length)
 else if qat T st bL3=true then
  let r:=bLK T E T.length (!qat T (bKW T bL3 st) bLV) [] (bKW T bL3 st)
  (bL2 {d:=6,at_:=t.e,s:=t.f,c:=r.2} (bL0 T bLV r.1),r.1.L.length)
 else(bL2 {d:=4,at_:=t.e,s:=t.f} st,st.L.length)
def bOX(T:List Tok)(E F:QS->QS × Int)(st:QS):QS × Int:=
 if st.a≠0 then(st,0)
 else if(dD T st.i).d=2 then(bL2 {d:=3,at_:=(dD T st.i).e,n:=(dD T st.i).a} (bKV T st),st.L.length)
 else if(dD T st.i).d=1 then bP5 T E (dD T st.i) (bKV T st)
 else if qat T st bL3=true then
  let e:=E (bKW T bL3 st)
  (bL0 T bLV e.1,e.2)
 else if qat T st bLT=true then
  let e:=F (bKW T bLT st)
  (bL2 {d:=7,at_:=(dD T st.i).e,c:=[e.2]} {e.1 with op:=wrap64 (e.1.op - 1)},e.1.L.length)
 else(bLH T st,0)
def qEF(T:List Tok):Nat->(QS->QS × Int) × (QS->QS × Int)
 |0=>(fun st=>(st,0),fun st=>(st,0))
 |n+1=>(qex T (bOX T (qEF T n).1 (qEF T n).2),bOX T (qEF T n).1 (qEF T n).2)
theorem Gr.spend(h:Gr a b n)(e:n<=8)(k:Gr b c 0)(hi:b.i+1<=c.i)(d:c.L=b.L):Gr a c 0:=
 ⟨Qm h.i k.i,(h.t k).stick,by have:=h.room;rw[d];omega,(h.t k).c,(h.t k).pre,(h.t k).neg⟩
def Grs(P:QS->QS × Int):Prop:=∀ st,Gr st (P st).1 1
def bW3(P:QS->QS × Int):Prop:=∀ st,st.a≠0->P st=(st,0)
theorem Grs.loop{P:QS->QS × Int}(g:Grs P)(G:ByteArray):∀ (k:Nat) (x:Int) (st:QS),Gr st (bN5 T P G k x st).1 0:=by
 intro k
 induction k with
 |zero=>exact fun _ st=>Gr.refl st
 |succ k ih=>
  intro x st;unfold bN5
  split
  ·rename_i hy;have e:=Gr.b T st;have f:=(g (bKV T st)).t (Gr.add {d:=8,at_:=(dD T st.i).e,s:=(dD T st.i).f,c:=[x,(P (bKV T st)).2]} _);exact((e.paid (Nat.le_of_eq (bMK T st (bQ6 hy.1)).symm) f Oa bKY).t (ih _ _)).le Oa
  ·exact Gr.refl st
theorem Grs.chain{P:QS->QS × Int}(d:Grs P)(G:ByteArray):Grs (bN4 T P G):=fun st=>((d st).t (d.loop G _ _ _)).le Ol
theorem Grs.ex{F:QS->QS × Int}(d:Grs F):Grs (qex T F):=fun st=>by
 unfold qex
 split
 ·exact(Gr.refl st).le Oa
 ·exact(d.chain bQN).chain bRX st
theorem Grs.args{E:QS->QS × Int}(d:Grs E):∀ (k:Nat) (more:Bool) (l:List Int) (st:QS),Gr st (bLK T E k more l st).1 1:=by
 intro k
 induction k with
 |zero=>exact fun _ _ st=>(Gr.refl st).le Oa
 |succ k ih=>
  intro more l st;unfold bLK
  split
  ·cases hb:qat T (E st).1 bPJ
   ·rw[if_neg Od];have:(bLK T E k false (l++[(E st).2]) (E st).1).1=(E st).1:=by cases k<;>simp[bLK]
    rw[this];exact d st
   ·rw[if_pos rfl];exact(((d st).spend Oa (Gr.b T _) (Nat.le_of_eq (bMK T _ (bNF hb)).symm) bKY).t (ih _ _ _)).le Oa
  ·exact(Gr.refl st).le Oa
theorem Grs.beh{E:QS->QS × Int}(d:Grs E)(t:Tok)(st:QS):Gr st (bP5 T E t st).1 2:=by
 unfold bP5
 split
 ·exact(((Gr.opn T brT st).t (d _)).t ((Gr.H T bOB _).t (Gr.add _ _))).le Oa
 ·split
  ·exact(((Gr.opn T bL3 st).t (d.args _ _ _ _)).t ((Gr.H T bLV _).t (Gr.add _ _))).le Oa
  ·exact(Gr.add _ _).le Oa
theorem cAI{s:ByteArray}(d:qat T st s=true)(e:st.a=0):(bL1 T s st).i=st.i+1:=by
 unfold bL1;rw[if_neg (by simp[e]),if_pos d];exact bMK T st (bNF d)
theorem bUS{s:ByteArray}(f:qat T st s=true):(bKW T s st).a≠0\/((bKW T s st).i=st.i+1/\(bKW T s st).L=st.L):=by
 by_cases d:(bKW T s st).a=0
 ·right;unfold bKW at d ⊢
  split at d
  ·exfalso
   revert d
   unfold bL1;rw[if_pos Od];simp
  ·rename_i hd;rw[if_neg hd]
   have e:({st with op:=wrap64 (st.op+1)}:QS).a=0:=by
    by_cases e:({st with op:=wrap64 (st.op+1)}:QS).a=0
    ·exact e
    ·have:=((Gr.must T s {st with op:=wrap64 (st.op+1)}).stick e).1;rw[d]at this;exact this.symm
   refine⟨cAI f e,?_⟩;unfold bL1;rw[if_neg (by simpa using e)]
   split
   ·exact bKY
   ·exact bOF
 ·exact .l d
theorem Grs.fac{E F:QS->QS × Int}(e:Grs E)(g:Grs F)(j:bW3 F):Grs (bOX T E F):=fun st=>by
 unfold bOX
 split
 ·exact(Gr.refl st).le Oa
 split
 ·rename_i hk;exact((Gr.b T st).paid (Nat.le_of_eq (bMK T st Oa).symm) (Gr.add _ _) Oa bKY).le Oa
 split
 ·rename_i hk;exact((Gr.b T st).paid (Nat.le_of_eq (bMK T st Oa).symm) (e.beh _ _) Oa bKY).le Oa
 split
 ·exact(((Gr.opn T bL3 st).t (e _)).t (Gr.H T bLV _)).le Oa
 split
 ·rename_i hb;have f:∀ x:QS × Int,Gr x.1 (bL2 {d:=7,at_:=(dD T st.i).e,c:=[x.2]} {x.1 with op:=wrap64 (x.1.op - 1)}) 1:=fun x=>⟨Ql _,fun _=>⟨rfl,rfl⟩,by simp[bL2];omega,rfl,List.prefix_append _ _,bZQ _ _⟩;rcases bUS hb with i|⟨hi,h⟩
  ·have:=f (F (bKW T bLT st));rw[j _ i]at this ⊢;exact((Gr.opn T bLT st).t this).le Oa
  ·exact((Gr.opn T bLT st).paid (Nat.le_of_eq hi.symm) ((g _).t (f _)) Oa h).le Oa
 ·exact(Gr.E T st).le Oa
theorem bM6(T:List Tok)(n:Nat):(Grs (qEF T n).1/\Grs (qEF T n).2)/\bW3 (qEF T n).1/\bW3 (qEF T n).2:=by
 induction n with
 |zero=>exact⟨⟨fun st=>(Gr.refl st).le Oa,fun st=>(Gr.refl st).le Oa⟩,fun _ _=>rfl,fun _ _=>rfl⟩
 |succ n ih=>exact⟨⟨(ih.1.1.fac ih.1.2 ih.2.2).ex,ih.1.1.fac ih.1.2 ih.2.2⟩,fun st d=>if_pos d,fun st d=>if_pos d⟩
end
end Go.Proofs.YtikffmloeifkpaaGreatDoor
