/- Contracts. -/
import Derived.Test.YtikffmloeifkpaaGreatDoorQ39
import Derived.Test.YtikffmloeifkpaaGreatDoorQ35
import Derived.Test.YtikffmloeifkpaaGreatDoorQ36
set_option maxHeartbeats 16000000
set_option maxRecDepth 100000
namespace Go.Proofs.YtikffmloeifkpaaGreatDoor
section
open Go.RowKit Go.Lib Go.Deep Go.Maps Go.ChangeMaps Go.MapKept
variable {w0:World} {pb lb kb vb xb:Nat} {vS:Value} {S:Sl} {F F':Fl} {alive:Bool} {vs:Vr} {u w w':World} {m:Bool} {al fl:List Tr} {lens:Nat->Int}
theorem aR2:∀ (t:Tr),Ws 0 t->∀ F:Fl,(exA lens fl alive vs t F).1=[hdR (exA lens fl alive vs t F).1]:=by
 intro t
 induction t with
 |nil=>intro h;exact absurd h (by unfold Ws bK;omega)
 |node b o a l q ihl _=>
  intro hw F;obtain⟨_,sx,sy,h0,h1,_⟩:=hw.parts
  have ht:a.tag < 7:=by
   rcases Qk a.tag 7 with h|h
   ·exact h
   ·exfalso;unfold sig at h0;rw[if_pos rfl]at h0;rw[Oh,Oh,Oh,Oh,Oh]at h0;cases h0
  by_cases t0:a.tag=0
  ·rw[aBA t0];rfl
  by_cases t1:a.tag=1
  ·rw[aB9 t1];rfl
  by_cases t2:a.tag=2
  ·rw[zT t2];rfl
  by_cases t3:a.tag=3
  ·rw[xE t3];rfl
  by_cases t4:a.tag=4
  ·rw[zS (.inl t4)];have:sx=0:=by rw[t4]at h0;cases h0;rfl
   subst this;exact ihl h1 F
  by_cases t5:a.tag=5
  ·rw[aB8 t5];rfl
  have t6:a.tag=6:=Oa
  by_cases o1:a.op=27
  ·rw[tR t6 o1];rfl
  by_cases o2:a.op=28
  ·rw[tS t6 o2];rfl
  by_cases o3:a.op=29
  ·rw[tQ t6 o3];rfl
  ·rw[qH t6 ⟨o1,o2,o3⟩];rfl
theorem aEM{t:Tr}(h:Ws 3 t):exA lens fl alive vs t F=exA lens fl alive vs (bCF t) F:=by
 rcases h.lst (.inl rfl)with rfl|⟨b,o,a,l,rfl,ht,_⟩
 ·rfl
 ·rw[zS (.inr ht)];rfl
theorem aGW(rs:List Rg)(r:Rg):oT (nY rs) rs.length r=nY (rs++[r]):=by
 funext j
 unfold oT nY;simp only[List.getD_eq_getElem?_getD,List.getElem?_append]
 by_cases h:j=rs.length
 ·subst h;simp
 ·rw[if_neg h]
  by_cases h2:j < rs.length
  ·rw[if_pos h2]
  ·rw[if_neg h2,List.getElem?_eq_none Oa,List.getElem?_eq_none (by simp;omega)]
theorem aKZ:nY []=vr0:=by funext j;rfl
structure LpV(w0:World)(vS:Value)(S:Sl)(lb xb nv:Nat)(al fl:List Tr)(alive:Bool)(vs:Vr)(L:Tr)(T:List Rg × Fl)(w:World)(i:Nat)(rs:List Rg)(F':Fl)(wr:World):Prop where
 res:T=(rs++(exA (bCG al) fl alive vs (aL i L) F').1,(exA (bCG al) fl alive vs (aL i L) F').2)
 len:rs.length=i
 fx:Fs w0.heap.size false w wr
 flw:FlW w0.heap.size vS S F' wr
 nvw:wr.heap[nv]?=some (.cells #[.pointer (some ⟨lb,0,none⟩),.pointer (some ⟨xb,0,none⟩),.bool false] 349 (0,0))
 var:dW xb (nY rs) wr
theorem aTE(hp:PgX pb al fl w0){b o:Nat}{a:Nd}{l q:Tr}(ht:a.tag=3)(hi:IsT w0 (.node b o a l q))(h6:Ws 3 l){j:Nat}{e0:Tr}(hj:a.which=j)(he:fl[j]?=some e0)(hlen:aD l<=4)(hA:fE (fun e=>Ws 0 e/\GV 260 w0 pb vS S al fl bCH e) (bCF l))(j3:Ws 5 (aU e0))(hT:fE (fun e=>Ws 20 e/\G2 w0 pb vS S al fl e) (bCF (aU e0)))(hs:a.site= -1\/∃ s:Nat,a.site=s/\s < S.length):GVn 307 w0 pb vS S al fl cB (.node b o a l q):=by
 intro lb vb xb F alive vs w h;obtain⟨ao,cp,y4⟩:=h6.lstval Ox
 have j7:j < fl.length:=by
  rcases Qk j fl.length with h|h
  ·exact h
  ·rw[List.getElem?_eq_none h]at he;cases he
 have hjI:0<=(j:Int)/\(j:Int) < (fl.length:Int):=Oa
 have cellsO:w0.cell? ⟨b,2,none⟩=some (.int .i64 (j:Int))/\w0.cell? ⟨b,3,none⟩=some (.slice ao (aD l) cp)/\w0.cell? ⟨b,4,none⟩=some (.int .i64 a.site):=by
  obtain⟨cs,hc,hn,h3,h4⟩:=aI hi.2.2 (n:=3) ht;exact⟨by rw[cell_of_row _ _ _ _ _ _ hc,<-hj];exact hn.2.2,by rw[cell_of_row _ _ _ _ _ _ hc,<-y4];exact h3,Og hc h4⟩
 obtain⟨T,k7⟩:∃ T,T=exA (bCG al) fl alive vs (bCF l) F:=⟨_,rfl⟩;have okT:OkL T.1:=by rw[k7,<-aEM h6];exact wK h.ok l 3 F h6
 have hX:(exA (bCG al) fl alive vs (.node b o a l q) F).2=if a.site= -1 then T.2 else iD T.2 a.site (eU (nY T.1) (aU e0)||!alive):=by
  rw[xE ht,k7,<-aEM h6];have e1:fl.getD a.which.toNat .nil=e0:=by rw[List.getD_eq_getElem?_getD,hj,Int.toNat_natCast,he];rfl
  rw[e1]
 rw[hX];obtain⟨G,k2⟩:∃ G,G=(if a.site= -1 then T.2 else iD T.2 a.site (eU (nY T.1) (aU e0)||!alive)):=⟨_,rfl⟩;rw[<-k2];show Calls Tryz.prog 307 #[.pointer (some ⟨vb,0,none⟩),.pointer (some ⟨b,0,none⟩)] w _;obtain⟨it,vA,vF,mm,vS9,H9,z1,_,z6⟩:=hp.prog;obtain⟨g9,cp9,cb,o9,a9,l9,x9,y9,z9,pw,qb,y6,z3,e9,z4⟩:=z6.get he
 have pF:w0.cell? ⟨pb,2,none⟩=some (.slice (some ⟨g9,0,none⟩) fl.length cp9):=by
  rw[cell_of_row _ _ _ _ _ _ z1,<-y6];rfl
 have iE:IsT w0 e0:=hp.fns e0 (Qi he)
 have y3:IsT w0 (aU e0):=by
  rw[e9]at iE ⊢;exact iE.2.1.1
 have cbw:w0.cell? ⟨cb,4,none⟩=some (bCH (aU e0)):=by
  obtain⟨cs,hc,_,_,h4,h5,_⟩:=z4;rw[e9,cell_of_row _ _ _ _ _ _ hc];exact h4
 obtain⟨o1,k5⟩:∃ o1:Obj,o1= .cells bEU 261:=⟨_,rfl⟩;obtain⟨kA,bA,zA⟩:=qN w o1;have y7:dW w.heap.size vr0 (w.alloc o1):=by rw[k5];exact xX w
 obtain⟨o2,k8⟩:∃ o2:Obj,o2= .cells #[.pointer (some ⟨lb,0,none⟩),.pointer (some ⟨w.heap.size,0,none⟩),.bool false] 349:=⟨_,rfl⟩;obtain⟨kB,bB,zB⟩:=qN (w.alloc o1) o2;have kB':((w.alloc o1).alloc o2).heap[w.heap.size+1]?=some (.cells #[.pointer (some ⟨lb,0,none⟩),.pointer (some ⟨w.heap.size,0,none⟩),.bool false] 349 (0,0)):=by rw[<-zA,kB,k8]
 have V1:=(h.new bA).new bB;have k1:w0.heap.size<=w.heap.size:=h.size
 have L0:LpV w0 vS S lb w.heap.size (w.heap.size+1) al fl alive vs (bCF l) T w 0 [] F ((w.alloc o1).alloc o2):=
  ⟨k7,rfl,(Fs.of bA h.size false).trans (Fs.of bB (h.new bA).size false),V1.vw.fl,kB',by rw[aKZ];exact y7.same (bB.block _ Oa)⟩
 obtain⟨v0,v1,v2,_⟩:=aG h.vw.view;have HH:Hid (VC w0 pb lb vb xb vS S F alive vs w):=h;have hb3:=aE V1.low cellsO.2.1;have HI:Hid (IsT w0 (.node b o a l q)):=hi;have j9:Hid (Ws 3 l):=h6;have k4:Hid _:=cellsO;have y0:Hid _:=pF;have y1:Hid (w0.cell? ⟨g9,j,none⟩=some (.pointer (some ⟨cb,0,none⟩))):=z3;have g3:Hid _:=cbw;have g0:Hid _:=y3;unfold bEU at k5;clear hX k7 kA bA kB bB kB' y7 V1 h hi h6 cellsO pF z3 cbw y3 iE z4 e9 z1 z6 he hj ht j7 y6 zB hp;go_enter Tryz.func307,Tryz.ntmps307
 go_upto_region 1 with fail
 rw[<-k5,<-k8];clear k5 k8;generalize j4:(w.alloc o1).alloc o2=w1 at*;clear j4 zA v0 v1 v2;go_wp2_with fail
 go_loopg [19] (aD l) (fun m v wr=>∃ (i:Nat) (rs:List Rg) (F':Fl),v= .int .i64 i/\i<=aD l/\aD l<=i+m/\LpV w0 vS S lb w.heap.size (w.heap.size+1) al fl alive vs (bCF l) T w i rs F' wr)
 case atStart=>exact⟨0,[],F,rfl,Qe _,Oa,L0⟩
 case round=>
  clear L0;obtain⟨i,rs,F1,rfl,hle,hm,LP⟩:=hrel
  by_cases j6:i < aD l
  ·have k9:(i:Int) < (aD l:Int):=Oa
   have hiI:0<=(i:Int)/\(i:Int) < 12:=Oa
   obtain⟨b2,o2,a2,e2,r2,k6,z5⟩:=dK i (bCF l) (by rw[<-aT];exact j6);have z7:=fE.drop i _ hA;rw[k6]at z7;obtain⟨z8,⟨k3,hG⟩,_⟩:=z7;have X:VC w0 pb lb vb xb vS S F1 alive vs wr:=HH.out.next LP.fx LP.flw
   obtain⟨gg,rfl,h0⟩:=gQ (H:=0) Ox j9.out HI.out.1 (Fr.refl 0 F0 w0) F0.body y4 k6 (by
    cases e2 with
    |nil=>exact absurd k3 (by unfold Ws bK;omega)
    |node b o a l r=>
     obtain⟨_,x,y,e,_⟩:=k3.parts;exact⟨b,o,a,l,r,rfl,fun h=>(by rw[h]at e;cases e),fun h=>(by rw[h]at e;cases e)⟩)
   obtain⟨u,p,y5⟩:=k3.val Ox;have h1:=hG lb vb xb F1 alive vs wr.drew X.drew;rw[y5]at h0 h1;have h0:=aE X.low h0;obtain⟨nv0,nv1,nv2,_⟩:=aG LP.nvw;have h2:=LP.res;have h9:=aR2 (lens:=bCG al) (fl:=fl) (alive:=alive) (vs:=vs) e2 k3 F1;rw[k6,wM z8,h9]at h2;have h8:Hid _:=LP;have j2:Hid (aL (i+1) (bCF l)=r2):=z5;generalize exA (bCG al) fl alive vs e2 F1=x at*;obtain⟨xl,F3⟩:=x;dsimp only at*;generalize hdR xl=V at*;have j1:Hid _:=h2;have HX:Hid (VC w0 pb lb vb xb vS S F1 alive vs wr):=X;have z2:w.heap.size+1≠w.heap.size:=Oa
   clear h2 LP hG k3 k6 z5 z8 y5 X h9 hA hT;go_upto_region 4 with fail
   go_region_held3 (fun w'=>w'.cell? ⟨w.heap.size+1,1,none⟩=some (.pointer (some ⟨w.heap.size,0,none⟩)))
    (first
      |assumption
      |go_keep)
    ((go_at_call 260;refine h1.mono ?_;rintro e W3 ⟨rfl,f3,x3⟩;rw[aS];have x4:=h8.out.fx.drew.trans x3;have kn:=x3.keep (w:=wr.drew) h8.out.nvw Ob Oy Oy;have kv:=dW.fs (w:=wr.drew) h8.out.var x3;obtain⟨kn0,kn1,kn2,_⟩:=aG kn;obtain⟨kc0,kc1⟩:=kv.cells.1 i Oa;have kf:=kv.cells.2))
   obtain⟨m,rfl⟩:=Oj gk
   have fin:∃ (i':Nat) (rs:List Rg) (F':Fl),Value.int .i64 ((i:Int)+1)= .int .i64 i'/\i'<=aD l/\aD l<=i'+m/\LpV w0 vS S lb w.heap.size (w.heap.size+1) al fl alive vs (bCF l) T w i' rs F' ((W3.setCell ⟨w.heap.size,i*2,none⟩ (.int .i64 V.1)).setCell ⟨w.heap.size,i*2+1,none⟩ (.int .i64 V.2)):=by
    refine⟨i+1,rs++[V],F3,Od,Oa,Oa,?_,by simp[h8.out.len],(x4.setNew k1 Ol _ _).setNew k1 Ol _ _,?_,(Om z2).trans ((Om z2).trans kn),?_⟩
    ·rw[j2.out,j1.out,List.append_assoc]
    ·obtain⟨cs,hc,_⟩:=kv;exact(f3.setOther hc Ob _ _).setOther (aM _ hc) Ob _ _
    ·have e:=aGW rs V;rw[h8.out.len]at e;rw[<-e];exact kv.put Oa V
   clear f3 x3 x4 kn kv kf kc0 kc1 kn0 kn1 kn2 h8 j1 j2 h0 nv0 nv1 nv2 HX h1;go_wp2;go_roundg m
   case rel=>exact fin
   case measure=>omega
  ·have k9: ¬(i:Int) < (aD l:Int):=Oa
   have k0:T=(rs,F1):=by
    have:=LP.res;rw[show i=aO (bCF l)by rw[<-aT];omega,eS]at this;rw[this,show exA (bCG al) fl alive vs .nil F1=([],F1)from rfl,List.append_nil]
   have X:VC w0 pb lb vb xb vS S F1 alive vs wr:=HH.out.next LP.fx LP.flw;have c4:=aE X.low k4.out.2.2;rcases hs with hs|⟨s,hs,j5⟩
   ·have y2:Hid (G=F1):=by rw[Hid,k2,if_pos hs,k0]
    rw[hs]at c4;have FW:Hid (FlW w0.heap.size vS S F1 wr/\Fs w0.heap.size false w wr):=⟨LP.flw,LP.fx⟩;clear LP X k0 k2 hs;go_wp2;go_end0
    exact⟨rfl,by rw[y2.out];exact FW.out.1,FW.out.2⟩
   ·have z0:a.site≠-1:=Oa
    have y2:Hid (G=iD F1 s (eU (nY rs) (aU e0)||!alive)):=by rw[Hid,k2,if_neg z0,k0,hs]
    rw[hs]at c4;have hsI:0<=(s:Int)/\(s:Int) < (S.length:Int):=Oa
    have hsm: ¬((s:Int)= -1):=Oa
    have Y:VC w0 pb lb (w.heap.size+1) w.heap.size vS S F1 false (nY rs) wr:=by
     refine⟨⟨LP.nvw,X.vw.look,LP.var,LP.flw,X.vw.size⟩,X.low,fun i=>?_⟩;rw[k0]at okT;unfold nY;rw[List.getD_eq_getElem?_getD];cases hi:rs[i]? with
     |none=>exact bV.zero
     |some r=>exact okT r (Qi hi)
    have y8:=aPL j3 g0.out hT g3.out Y.drew;generalize eU (nY rs) (aU e0)=D at*;obtain⟨v0,_,_,_⟩:=aG X.vw.view;obtain⟨km,nw,h7⟩:=X.vw.look;obtain⟨l0,_,_,_,_⟩:=cO h7;have c2:=aE X.low k4.out.1;have cF:=aE X.low y0.out;have cG:=aE X.low y1.out;have HX:Hid (VC w0 pb lb vb xb vS S F1 alive vs wr):=X;have j8:Hid (Fs w0.heap.size false w wr):=LP.fx;have j0:Hid (w0.cell? ⟨b,4,none⟩=some (.int .i64 (s:Int))):=by rw[Hid,k4.out.2.2,hs]
    have g2:Hid (∀ W,VC w0 pb lb vb xb vS S F1 alive vs W->W.cell? ⟨vb,0,none⟩=some (.pointer (some ⟨lb,0,none⟩))/\W.cell? ⟨lb,0,none⟩=some (.pointer (some ⟨pb,0,none⟩))):=fun W hW=>by
     obtain⟨v0,_,_,_⟩:=aG hW.vw.view;obtain⟨km,nw,h7⟩:=hW.vw.look;obtain⟨l0,_,_,_,_⟩:=cO h7;exact⟨v0,l0⟩
    have g1:Hid (∀ W F2,VC w0 pb lb vb xb vS S F2 alive vs W->W.cell? ⟨vb,0,none⟩=some (.pointer (some ⟨lb,0,none⟩))/\W.cell? ⟨lb,0,none⟩=some (.pointer (some ⟨pb,0,none⟩))):=fun W F2 hW=>by
     obtain⟨v0,_,_,_⟩:=aG hW.vw.view;obtain⟨km,nw,h7⟩:=hW.vw.look;obtain⟨l0,_,_,_,_⟩:=cO h7;exact⟨v0,l0⟩
    clear LP X Y k0 k2 hs z0 h7 hA hT okT;go_upto_region 7 with fail
    go_region_held3 (fun w'=>w'.cell? ⟨b,4,none⟩=some (.int .i64 (s:Int))/\w'.cell? ⟨vb,0,none⟩=some (.pointer (some ⟨lb,0,none⟩))/\w'.cell? ⟨lb,0,none⟩=some (.pointer (some ⟨pb,0,none⟩))/\w'.cell? ⟨pb,2,none⟩=some (.slice (some ⟨g9,0,none⟩) fl.length cp9)/\w'.cell? ⟨b,2,none⟩=some (.int .i64 (j:Int))/\w'.cell? ⟨g9,j,none⟩=some (.pointer (some ⟨cb,0,none⟩)))
     (first
       |(refine⟨?_,?_,?_,?_,?_,?_⟩<;>assumption)
       |go_keep)
     (first
       |(go_at_call 311;refine(bFM va.vw s j5 D).mono ?_;rintro e Wb ⟨rfl,fb,xb'⟩;have vb':=va.next xb' fb;obtain⟨e0',e1'⟩:=g1.out Wb _ vb';have e2':=aE vb'.low j0.out;have e3':=aE vb'.low y0.out;have e4':=aE vb'.low k4.out.1;have e5':=aE vb'.low y1.out)
       |(go_at_call 337;refine y8.mono ?_;rintro e Wa ⟨rfl,fa,xa⟩;have va:=HX.out.drew.next xa fa;obtain⟨d0,d1⟩:=g2.out Wa va;have d2:=aE va.low j0.out;have d3:=aE va.low y0.out;have d4:=aE va.low k4.out.1;have d5:=aE va.low y1.out))
    have FW:Hid (FlW w0.heap.size vS S G Wb/\Fs w0.heap.size false w Wb):=⟨by rw[y2.out];exact fb,(j8.out.drew.trans xa).trans xb'⟩;clear va vb' fa xa fb xb' y8 d0 d1 d2 d3 d4 d5 e0' e1' e2' e3' e4' e5';go_wp2;go_end0
    exact⟨rfl,FW.out⟩
end
section
open Go.RowKit Go.Lib Go.Deep Go.Maps Go.ChangeMaps Go.MapKept
variable {w0:World} {pb lb kb vb xb:Nat} {vS:Value} {S:Sl} {F F':Fl} {alive:Bool} {vs:Vr} {u w w':World} {m:Bool} {al fl:List Tr} {lens:Nat->Int}
theorem aM6{b o:Nat}{a:Nd}{l q:Tr}(h:a.tag=4):cV (.node b o a l q)=cV l:=if_pos h
theorem aM7{b o:Nat}{a:Nd}{l q:Tr}(h:a.tag=1):cV (.node b o a l q)=a.which:=(Oh).trans (if_pos h)
theorem aHC{b o:Nat}{a:Nd}{l q:Tr}(h:a.tag≠4)(h1:a.tag≠1):cV (.node b o a l q)= -1:=(if_neg h).trans (if_neg h1)
theorem aHH{k:Nat}{Z:World}(h:FlW w0.heap.size vS S F Z)(hx:Fs w0.heap.size false w Z)(hl:w0.heap.size<=w.heap.size)(hk:w.heap.size<=k){x y z x' y' z':Value}(kz:Z.heap[k]?=some (.cells #[x,y,z] 264 (0,0))):
 FlW w0.heap.size vS S F (((Z.setCell ⟨k,0,none⟩ x').setCell ⟨k,1,none⟩ y').setCell ⟨k,2,none⟩ z')/\Fs w0.heap.size false w (((Z.setCell ⟨k,0,none⟩ x').setCell ⟨k,1,none⟩ y').setCell ⟨k,2,none⟩ z')/\
  (((Z.setCell ⟨k,0,none⟩ x').setCell ⟨k,1,none⟩ y').setCell ⟨k,2,none⟩ z').heap[k]?=some (.cells #[x',y',z'] 264 (0,0)):=
 ⟨((h.setOther kz Ob _ _).setOther (aM _ kz) Ob _ _).setOther (aM _ (aM _ kz)) Ob _ _,((hx.setNew hl hk _ _).setNew hl hk _ _).setNew hl hk _ _,zH kz⟩
theorem aMG{t:Tr}(hw:Ws 0 t)(hi:IsT w0 t)(hg:GV 260 w0 pb vS S al fl bCH t)(h:VC w0 pb lb vb xb vS S F alive vs w):
 Calls Tryz.prog 203 #[.pointer (some ⟨vb,0,none⟩),bCH t] w fun e w'=>e= .returned (sdV (hdR (exA (bCG al) fl alive vs t F).1,cV t))/\FlW w0.heap.size vS S (exA (bCG al) fl alive vs t F).2 w'/\Fs w0.heap.size false w w':=by
 obtain⟨u0,p0,h6⟩:=hw.val Ox;obtain⟨o0,y3⟩:∃ o0:Obj,o0= .cells #[.int .i64 0,.int .i64 0,.int .i64 0] 264:=⟨_,rfl⟩;obtain⟨kA,bA,zA⟩:=qN w o0;have VA:=h.new bA;have FA:Hid (Fs w0.heap.size false w (w.alloc o0)):=Fs.of bA h.size false;have HV:Hid (VC w0 pb lb vb xb vS S F alive vs (w.alloc o0)):=VA;have KA:Hid ((w.alloc o0).heap[w.heap.size]?=some (.cells #[.int .i64 0,.int .i64 0,.int .i64 0] 264 (0,0))):=by rw[y3]at kA ⊢;exact kA
 have h8:w0.heap.size<=w.heap.size:=h.size;have h4:=hg lb vb xb F alive vs _ VA;rw[h6]at h4 ⊢;generalize exA (bCG al) fl alive vs t F=X at*;obtain⟨xl,F2⟩:=X;dsimp only at*;generalize hdR xl=R at*;have y8:Hid (bCH t= .iface u0 (.pointer (some p0))):=h6;obtain⟨D,y4⟩:∃ D,cV t=D:=⟨_,rfl⟩;rw[y4];have y9:Hid (cV t=D):=y4;clear VA bA kA h hg h6 y4;go_enter Tryz.func203,Tryz.ntmps203
 go_upto_region 1 with fail
 rw[<-y3];clear y3;generalize w.alloc o0=wA at*;go_wp2_with fail
 refine h4.mono ?_;rintro e W ⟨rfl,f2,x2⟩;have V2:=HV.out.next x2 f2;have k2:=x2.keep KA.out Ob Oy Oy;obtain⟨o1,y2⟩:∃ o1:Obj,o1= .cells #[.int .i64 R.1,.int .i64 R.2,.int .i64 (-1)] 264:=⟨_,rfl⟩;obtain⟨kB,bB,zB⟩:=qN W o1;have V3:=V2.new bB;have k3:=(Fs.of bB V2.size false).keep k2 Ob Oy Oy;have F3:Hid (Fs w0.heap.size false w (W.alloc o1)):=(FA.out.trans x2).trans (Fs.of bB V2.size false);have y0:Hid (VC w0 pb lb vb xb vS S F2 alive vs (W.alloc o1)):=V3;have KR3:Hid ((W.alloc o1).heap[w.heap.size]?=some (.cells #[.int .i64 0,.int .i64 0,.int .i64 0] 264 (0,0))):=k3;have KS3:Hid ((W.alloc o1).heap[W.heap.size]?=some (.cells #[.int .i64 R.1,.int .i64 R.2,.int .i64 (-1)] 264 (0,0))):=by rw[y2]at kB ⊢;exact kB
 have hWw:w.heap.size < W.heap.size:=by have:=x2.size;omega
 rw[aS];clear V2 V3 k2 k3 bB kB f2 x2 h4 FA HV KA;have L0:∃ t':Tr,Value.iface u0 (.pointer (some p0))=bCH t'/\szT t'<=szT t/\Ws 0 t'/\IsT w0 t'/\cV t'=D:=⟨t,y8.out.symm,Qc _,hw,hi,y9.out⟩;go_upto_region 2 with fail
 rw[<-y2];clear y2;generalize W.alloc o1=W1 at*;clear hw hi;go_loopg [1] (szT t) (fun m v wr=>(∃ t':Tr,v=bCH t'/\szT t'<=m/\Ws 0 t'/\IsT w0 t'/\cV t'=D)/\wr=W1)
 case atStart=>exact⟨L0,rfl⟩
 case round=>
  clear L0;obtain⟨⟨t',rfl,k6,hw,hi,hD⟩,rfl⟩:=hrel;cases t' with
  |nil=>exact absurd hw (by unfold Ws bK;omega)
  |node b o a l q=>
   obtain⟨h7,sx,sy,h0,k5,y1⟩:=hw.parts
   have ht:a.tag < 7:=by
    rcases Qk a.tag 7 with h|h
    ·exact h
    ·exfalso;unfold sig at h0;rw[if_pos rfl]at h0;rw[Oh,Oh,Oh,Oh,Oh]at h0;cases h0
   have h2:=hi.2.2;have h5:bCH (.node b o a l q)= .iface (bZ a.tag) (.pointer (some ⟨b,0,none⟩)):=Oh;rw[h5];have t1:=oD (bZ a.tag) (.pointer (some ⟨b,0,none⟩)) wr;have t4:=mX (bZ a.tag) (.pointer (some ⟨b,0,none⟩)) wr
   by_cases k4:a.tag=4
   ·have y6:=aM6 (b:=b) (o:=o) (l:=l) (q:=q) k4;rw[y6]at hD;have:sx=0:=by rw[k4]at h0;cases h0;rfl
    subst this;obtain⟨u,p,h6⟩:=k5.val Ox
    have m3:w0.cell? ⟨b,0,none⟩=some (bCH l):=by
     obtain⟨cs,hc,h3⟩:=aI h2 (n:=4) k4;rw[cell_of_row _ _ _ _ _ _ hc];exact h3
    have c3:=aE y0.out.low m3;rw[h6]at c3;rw[show bZ a.tag=398 by rw[k4];rfl]at t1 t4 ⊢;obtain⟨m,rfl⟩:∃ m,gk=m+1:=⟨gk - 1,by simp only[szT]at k6;omega⟩;have fin:(∃ t':Tr,Value.iface u (.pointer (some p))=bCH t'/\szT t'<=m/\Ws 0 t'/\IsT w0 t'/\cV t'=D)/\wr=wr:=⟨⟨l,h6.symm,by simp only[szT]at k6;omega,k5,hi.1,hD⟩,rfl⟩;clear hw hi k5 y1 h0 h2 h5 y6 hD m3 h6 ht k4 h7 k6;go_wp2;go_roundg m
    case rel=>exact⟨fin.1,rfl⟩
    case measure=>omega
   by_cases k1:a.tag=1
   ·have k7:=aM7 (b:=b) (o:=o) (l:=l) (q:=q) k1
    have m0:w0.cell? ⟨b,2,none⟩=some (.int .i64 D):=by
     obtain⟨cs,hc,hn⟩:=aI h2 (n:=1) k1;rw[cell_of_row _ _ _ _ _ _ hc,<-hD,k7];exact hn.2.2
    have c0:=aE y0.out.low m0;rw[show bZ a.tag=359 by rw[k1];rfl]at t1 t4 ⊢
    have hbn:b≠W.heap.size:=fun e=>by
     have h1:b < w0.heap.size:=Qg _ _ m0;omega
    obtain⟨s0,s1,s2,sf⟩:=aG KS3.out
    have kset:Hid ((wr.setCell ⟨W.heap.size,2,none⟩ (.int .i64 D)).heap[W.heap.size]?=some (.cells #[.int .i64 R.1,.int .i64 R.2,.int .i64 D] 264 (0,0))):=by
     have:=aM (o:=2) (.int .i64 D) KS3.out;rw[Hid];simpa using this
    have kres:Hid ((wr.setCell ⟨W.heap.size,2,none⟩ (.int .i64 D)).heap[w.heap.size]?=some (.cells #[.int .i64 0,.int .i64 0,.int .i64 0] 264 (0,0))):=(Om (by show w.heap.size≠W.heap.size;omega)).trans KR3.out;clear hw hi k5 y1 h0 h2 h5 k7 hD m0 ht k4 k1 h7 k6;go_upto_region 9 with fail
    have y7:FlW w0.heap.size vS S F2 (wr.setCell ⟨W.heap.size,2,none⟩ (.int .i64 D)):=y0.out.vw.fl.setOther KS3.out Ob _ _;have y5:Fs w0.heap.size false w (wr.setCell ⟨W.heap.size,2,none⟩ (.int .i64 D)):=F3.out.setNew h8 Oa _ _;clear s0 s1 s2 sf c0;generalize wr.setCell ⟨W.heap.size,2,none⟩ (.int .i64 D)=Z at*;obtain⟨s0,s1,s2,sf⟩:=aG kset.out;obtain⟨r0,r1,r2,rf⟩:=aG kres.out;obtain⟨k9,k8,hk⟩:=aHH (w:=w) (x':= .int .i64 R.1) (y':= .int .i64 R.2) (z':= .int .i64 D) y7 y5 h8 Ol kres.out;obtain⟨x0,x1,x2,_⟩:=aG hk;have k0:Hid _:=k9;have h9:Hid _:=k8;clear k9 k8 hk y7 y5;go_wp2;refine bodyPost_ret (v:=sdV (R,D)) (by simp[results,Tryz.results203,go_sem,sdV,x0,x1,x2]) rfl ?_;exact⟨rfl,k0.out,h9.out⟩
   ·have k7:=aHC (b:=b) (o:=o) (l:=l) (q:=q) k4 k1;rw[k7]at hD
    have n4:bZ a.tag≠398:=by
     have:a.tag=0\/a.tag=2\/a.tag=3\/a.tag=5\/a.tag=6:=Oa
     rcases this with k|k|k|k|k<;>rw[k]<;>decide
    have n1:bZ a.tag≠359:=by
     have:a.tag=0\/a.tag=2\/a.tag=3\/a.tag=5\/a.tag=6:=Oa
     rcases this with k|k|k|k|k<;>rw[k]<;>decide
    rw[if_neg n1,decide_eq_false n1]at t1;rw[if_neg n4,decide_eq_false n4]at t4;generalize bZ a.tag=ty at*;obtain⟨s0,s1,s2,sf⟩:=aG KS3.out;obtain⟨r0,r1,r2,rf⟩:=aG KR3.out;rw[hD]at s2;obtain⟨k9,k8,hk⟩:=aHH (w:=w) (x':= .int .i64 R.1) (y':= .int .i64 R.2) (z':= .int .i64 D) y0.out.vw.fl F3.out h8 Ol KR3.out;obtain⟨x0,x1,x2,_⟩:=aG hk;have k0:Hid _:=k9;have h9:Hid _:=k8;clear k9 k8 hk hw hi k5 y1 h0 h2 h5 k7 hD ht k4 k1 h7 k6 n1 n4;go_wp2;refine bodyPost_ret (v:=sdV (R,D)) (by simp[results,Tryz.results203,go_sem,sdV,x0,x1,x2]) rfl ?_;exact⟨rfl,k0.out,h9.out⟩
end
section
open Go.RowKit Go.Lib Go.Deep Go.Maps Go.ChangeMaps Go.MapKept
variable {w0:World} {pb lb kb vb xb nw c:Nat} {vS:Value} {K K':Kn} {S:Sl} {F F':Fl} {alive:Bool} {vs:Vr} {u w w':World} {m:Bool} {al fl:List Tr} {lens:Nat->Int}
structure SkW(w0:World)(pb lb kb:Nat)(vS:Value)(S:Sl)(F:Fl)(nw c:Nat)(K:Kn)(w:World):Prop where
 lk:LkW w0.heap.size lb pb kb vS nw c K w
 fl:FlW w0.heap.size vS S F w
 low:∀ i,i < w0.heap.size->w.heap[i]?=w0.heap[i]?
 ok:∀ p,OkS (K p)
theorem SkW.size(h:SkW w0 pb lb kb vS S F nw c K w):w0.heap.size<=w.heap.size:=h.lk.size
theorem SkW.next(h:SkW w0 pb lb kb vS S F nw c K w)(hx:Fs w0.heap.size false w w')(hf:FlW w0.heap.size vS S F' w'):SkW w0 pb lb kb vS S F' nw c K w':=
 ⟨h.lk.fs hx,hf,fun i hi=>(hx.low i hi).trans (h.low i hi),h.ok⟩
theorem SkW.new(h:SkW w0 pb lb kb vS S F nw c K w)(hx:Below w.heap.size w w'):SkW w0 pb lb kb vS S F nw c K w':=h.next (Fs.of hx h.size false) (h.fl.new hx.block)
theorem SkW.drew(h:SkW w0 pb lb kb vS S F nw c K w):SkW w0 pb lb kb vS S F nw c K w.drew:=h.next (Fs.refl _ _ _).drew (h.fl.same fun _ _ _=>rfl)
theorem SkW.drewN(h:SkW w0 pb lb kb vS S F nw c K w)(n:Nat):SkW w0 pb lb kb vS S F nw c K (w.drewN n):=h.next ((Fs.refl _ _ _).drewN n) (h.fl.same fun _ _ _=>rfl)
theorem SkW.view(h:SkW w0 pb lb kb vS S F nw c K w)(p:Int)(hp:0<=p/\p<=9223372036854775807):
 Calls Tryz.prog 202 #[.pointer (some ⟨lb,0,none⟩),.int .i64 p] w fun e w'=>∃ xb,e= .returned (.agg #[.pointer (some ⟨lb,0,none⟩),.pointer (some ⟨xb,0,none⟩),.bool (K p).isSome])/\Below w.heap.size w w'/\
  ∀ w2:World,Below w'.heap.size w' w2->∀ vb,w2.heap[vb]?=some (.cells #[.pointer (some ⟨lb,0,none⟩),.pointer (some ⟨xb,0,none⟩),.bool (K p).isSome] 349 (0,0))->VC w0 pb lb vb xb vS S F (K p).isSome (cC (K p)) w2:=by
 obtain⟨E,hE⟩:=h.lk;refine(aLD hE p hp).mono ?_;rintro e W ⟨xb,rfl,_,_,hv,hb⟩;refine⟨xb,rfl,hb,fun w2 h2 vb h1=>?_⟩;have hz:=h.size;have h0:xb < W.heap.size:=by obtain⟨cs,hc,_⟩:=hv;exact(Oo hc)
 have s2:SkW w0 pb lb kb vS S F nw c K w2:=(h.new hb).new h2;obtain⟨E2,h3⟩:=s2.lk;exact⟨⟨h1,⟨_,_,h3.blk⟩,hv.same (h2.block _ h0),s2.fl,s2.size⟩,s2.low,(h.ok p).vs⟩
theorem aHF{b o:Nat}{a:Nd}{l q:Tr}(ht:a.tag=7)(hi:IsT w0 (.node b o a l q))(hl:Ws 0 l/\GV 260 w0 pb vS S al fl bCH l)(hq:Ws 0 q/\GV 260 w0 pb vS S al fl bCH q)(p:Int)(hp:0<=p/\p<=9223372036854775807)(h:SkW w0 pb lb kb vS S F nw c K w):
 Calls Tryz.prog 134 #[.pointer (some ⟨lb,0,none⟩),.int .i64 p,.pointer (some ⟨b,0,none⟩)] w fun e w'=>
  e= .returned (.tuple #[sdV (hdR (exA (bCG al) fl (K p).isSome (cC (K p)) l F).1,cV l),sdV (hdR (exA (bCG al) fl (K p).isSome (cC (K p)) q (exA (bCG al) fl (K p).isSome (cC (K p)) l F).2).1,cV q)])/\
  FlW w0.heap.size vS S (exA (bCG al) fl (K p).isSome (cC (K p)) q (exA (bCG al) fl (K p).isSome (cC (K p)) l F).2).2 w'/\Fs w0.heap.size false w w':=by
 obtain⟨h6,k7⟩:=hl;obtain⟨h5,k6⟩:=hq;obtain⟨ul,pl,h8⟩:=h6.val Ox;obtain⟨uq,pq,h7⟩:=h5.val Ox;obtain⟨m0,m2,m3⟩:=pW hi.2.2 ht;obtain⟨b1,b2,bA,zA⟩:=aGU w (.cells #[.int .i64 0,.int .i64 0,.int .i64 0] 264) (.cells #[.int .i64 0,.int .i64 0,.int .i64 0] 264);have hv:=(h.new bA).view p hp;have h3:=h.size;have S2:Hid (SkW w0 pb lb kb vS S F nw c K ((w.alloc (.cells #[.int .i64 0,.int .i64 0,.int .i64 0] 264)).alloc (.cells #[.int .i64 0,.int .i64 0,.int .i64 0] 264))):=h.new bA;have F2:Hid (Fs w0.heap.size false w ((w.alloc (.cells #[.int .i64 0,.int .i64 0,.int .i64 0] 264)).alloc (.cells #[.int .i64 0,.int .i64 0,.int .i64 0] 264))):=Fs.of bA h.size false
 have z3:Hid (∀ vb xb w2,VC w0 pb lb vb xb vS S F (K p).isSome (cC (K p)) w2->Calls Tryz.prog 203 #[.pointer (some ⟨vb,0,none⟩),.iface ul (.pointer (some pl))] w2 fun e w'=>e= .returned (sdV (hdR (exA (bCG al) fl (K p).isSome (cC (K p)) l F).1,cV l))/\FlW w0.heap.size vS S (exA (bCG al) fl (K p).isSome (cC (K p)) l F).2 w'/\Fs w0.heap.size false w2 w'):=fun vb xb w2 h2=>by
  have:=aMG h6 hi.1 k7 h2;rw[h8]at this;exact this
 have z2:Hid (∀ vb xb w2,VC w0 pb lb vb xb vS S (exA (bCG al) fl (K p).isSome (cC (K p)) l F).2 (K p).isSome (cC (K p)) w2->Calls Tryz.prog 203 #[.pointer (some ⟨vb,0,none⟩),.iface uq (.pointer (some pq))] w2 fun e w'=>e= .returned (sdV (hdR (exA (bCG al) fl (K p).isSome (cC (K p)) q (exA (bCG al) fl (K p).isSome (cC (K p)) l F).2).1,cV q))/\FlW w0.heap.size vS S (exA (bCG al) fl (K p).isSome (cC (K p)) q (exA (bCG al) fl (K p).isSome (cC (K p)) l F).2).2 w'/\Fs w0.heap.size false w2 w'):=fun vb xb w2 h2=>by
  have:=aMG h5 hi.2.1 k6 h2;rw[h7]at this;exact this
 generalize exA (bCG al) fl (K p).isSome (cC (K p)) q (exA (bCG al) fl (K p).isSome (cC (K p)) l F).2=y at*;generalize exA (bCG al) fl (K p).isSome (cC (K p)) l F=x at*;obtain⟨xl,F4⟩:=x;obtain⟨yl,F5⟩:=y;dsimp only at*;generalize hdR xl=R at*;generalize hdR yl=Q at*;generalize cV l=D at*;generalize cV q=D2 at*;rw[h8]at m2;rw[h7]at m3;have h4:Hid _:=m2;have k4:Hid _:=m3;clear h h6 k7 h5 k6 h8 h7 m0 m2 m3 bA hi ht;go_enter Tryz.func134,Tryz.ntmps134
 go_upto_region 1 with fail
 generalize (w.alloc (.cells #[.int .i64 0,.int .i64 0,.int .i64 0] 264)).alloc (.cells #[.int .i64 0,.int .i64 0,.int .i64 0] 264)=w2 at*;go_wp2_with fail
 refine hv.mono ?_;rintro e W ⟨xb,rfl,hb,k5⟩;clear hv;obtain⟨o1,h9⟩:∃ o1:Obj,o1= .cells #[.pointer (some ⟨lb,0,none⟩),.pointer (some ⟨xb,0,none⟩),.bool (K p).isSome] 349:=⟨_,rfl⟩;obtain⟨kB,bB,zB⟩:=qN W o1;have V3:=k5 _ bB W.heap.size (by rw[kB,h9]);have F3:Hid (Fs w0.heap.size false w (W.alloc o1)):=(F2.out.trans (Fs.of hb S2.out.size false)).trans (Fs.of bB (S2.out.new hb).size false);have k1:Hid ((W.alloc o1).heap[w.heap.size]?=some (.cells #[.int .i64 0,.int .i64 0,.int .i64 0] 264 (0,0))):=(bB.block _ (Oi hb.size)).trans ((hb.block _ Oa).trans b1);have k2:Hid ((W.alloc o1).heap[w.heap.size+1]?=some (.cells #[.int .i64 0,.int .i64 0,.int .i64 0] 264 (0,0))):=(bB.block _ (Oi hb.size)).trans ((hb.block _ Oa).trans b2);have z1:Hid (VC w0 pb lb W.heap.size xb vS S F (K p).isSome (cC (K p)) (W.alloc o1)):=V3;have z0:=z3.out _ _ _ V3.drew;have c2:=aE V3.low h4.out;have c3:=aE V3.low k4.out;have h0:w.heap.size≠w.heap.size+1:=Oa
 have hn2:b≠w.heap.size:=fun e=>by
  have h1:b < w0.heap.size:=Qg _ _ h4.out;omega
 have hn3:b≠w.heap.size+1:=fun e=>by
  have h1:b < w0.heap.size:=Qg _ _ h4.out;omega
 clear V3 kB bB hb k5 b1 b2 F2 S2;go_upto_region 2 with fail
 rw[<-h9];clear h9;generalize W.alloc o1=W1 at*
 go_region_with (first
  |(go_at_call 203;refine k8.mono ?_;rintro e Wb ⟨rfl,fb,xb'⟩;have vb':=va.next xb' fb;have b2':=aE vb'.low h4.out;have b3':=aE vb'.low k4.out;have s1:=xb'.keep r1 Ob Oy Oy;have s2:=xb'.keep r2 Ob Oy Oy;unfold sdV;obtain⟨s10,s11,s12,s1f⟩:=aG s1;obtain⟨s20,s21,s22,s2f⟩:=aG s2)
  |(go_at_call 203;refine z0.mono ?_;rintro e Wa ⟨rfl,fa,xa⟩;have va:=z1.out.drew.next xa fa;have k8:=z2.out _ _ Wa va;have a2:=aE va.low h4.out;have a3:=aE va.low k4.out;have r1:=xa.keep (w:=W1.drew) k1.out Ob Oy Oy;have r2:=xa.keep (w:=W1.drew) k2.out Ob Oy Oy))
 all_goals
  obtain⟨y9,y3,y7⟩:=aHH (w:=w) (x':= .int .i64 R.1) (y':= .int .i64 R.2) (z':= .int .i64 D) fb ((F3.out.drew.trans xa).trans xb') h3 Ol s1;have y4:_:=(Below.heap_setCell _ (⟨w.heap.size,2,none⟩:Addr) (.int .i64 D) _ h0.symm).trans ((Below.heap_setCell _ (⟨w.heap.size,1,none⟩:Addr) (.int .i64 R.2) _ h0.symm).trans ((Below.heap_setCell _ (⟨w.heap.size,0,none⟩:Addr) (.int .i64 R.1) _ h0.symm).trans s2));obtain⟨y8,k9,y6⟩:=aHH (w:=w) (x':= .int .i64 Q.1) (y':= .int .i64 Q.2) (z':= .int .i64 D2) y9 y3 h3 (Nat.le_succ _) y4;have y5:_:=(Below.heap_setCell _ (⟨w.heap.size+1,2,none⟩:Addr) (.int .i64 D2) _ h0).trans ((Below.heap_setCell _ (⟨w.heap.size+1,1,none⟩:Addr) (.int .i64 Q.2) _ h0).trans ((Below.heap_setCell _ (⟨w.heap.size+1,0,none⟩:Addr) (.int .i64 Q.1) _ h0).trans y7));obtain⟨x0,x1,x2,_⟩:=aG y5;obtain⟨y0,y1,y2,_⟩:=aG y6;have k3:Hid _:=y8;have k0:Hid _:=k9;clear y9 y3 y7 y4 y8 k9 y6 y5 s10 s11 s12 s1f s20 s21 s22 s2f s1 s2 b2' b3' vb' fb xb' va k8 a2 a3 r1 r2 fa xa;go_wp2;refine bodyPost_ret (v:= .tuple #[sdV (R,D),sdV (Q,D2)]) (by simp[results,Tryz.results134,go_sem,sdV,x0,x1,x2,y0,y1,y2]) rfl ?_;exact⟨rfl,k3.out,k0.out⟩
end
end Go.Proofs.YtikffmloeifkpaaGreatDoor
