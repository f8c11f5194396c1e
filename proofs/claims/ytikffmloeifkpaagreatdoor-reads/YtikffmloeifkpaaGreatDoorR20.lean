/- Contracts. -/
import Derived.Test.YtikffmloeifkpaaGreatDoorR19
import Derived.Test.YtikffmloeifkpaaGreatDoorR17
set_option maxHeartbeats 8000000
set_option maxRecDepth 100000
namespace Go.Proofs.YtikffmloeifkpaaGreatDoor
open Go.RowKit Go.Lib Go.Deep Go.ChangeMaps Go.MapKept Tryz
section
variable {H O U gw cw:Nat} {T:List aU} {vI:Value}
abbrev eS(t:aU):Obj:= Qf #[Qc t.d,Qc t.e,.string t.f,Qc t.a] 220
abbrev tS(a:NQ):Obj:= Qf #[Qc a.d,Qc a.at_,.string a.s,Qc 0,Qc 0,.slice none 0 0,.slice none 0 0,.slice none 0 0,Qc 0,Qc 0,Qc 0] 73
theorem PW.boxed{st:QS}{Y e:Value}{V b:List V3}{w0 w:World}(h:PW H O U gw cw T st Y vI V w)(d:Px O U e Y b V w0 w)(a:NQ)(c:a.c=[]/\a.g=[]/\a.e=[]/\a.n=0/\a.mid=0/\a.b=0/\a.ref=0/\a.f=0):
 Bx H O U gw Y vI V w0.1.size w.1.size a v0 (w.alloc (tS a)):=by
 obtain⟨k,at_,s,n,g,f,i,o,m,j,l⟩:=a;obtain⟨rfl,rfl,rfl,rfl,rfl,rfl,rfl,rfl⟩:=c;exact⟨Qk w _,h.fresh Oa,d.size,uA.none rfl rfl rfl,(by grind[wU])⟩
theorem fV{st:QS}(s:ByteArray):(cO T s st).L=st.L:=by
 grind[cO,aV,tR]
theorem pO{st:QS}(s:ByteArray):(aO T s st).L=st.L:=by
 grind[aO,fV]
theorem fI{st:QS}(s:ByteArray):(cN T s st).L=st.L:=by unfold cN;rw[fV]
theorem info3:(prog.info? 3).map (fun i=>(i.zero,i.size,i.bytes))=some (some (Qc 0),1,8):=by kernel_rfl
theorem rX{X:Nat}{a:NQ}{v:V3}{st:QS}{Y d:Value}{V c:List V3}{w0 w:World}(b:Bx H O U gw Y vI V w0.1.size X a v w)(h:PW H O U gw cw T st Y vI V w)(l:Px O U d Y c V w0 w)(k:st.L.length<=200000):
 Calls prog 106 #[Qd O,NdA a v] w fun e f=>e= .returned (Qc st.L.length)/\Aft H O U gw cw T vI d c w0 (cQ a st) f:=by
 refine(tZ a v h b.n b.use.2.1 k).mono ?_;rintro e f ⟨g,m,i,j⟩;exact⟨g,m,_,i,(l.t j).more b.use.2.2⟩
theorem aU0(E:QS->QS × Int)(gE:oG E)(a4:Nat)(hE:mT H O U gw cw T vI 290 #[Qd O] E a4)(t:aU)(st:QS)(Y:Value)(V:List V3)(w:World)(c:Nat)(c6:c<=50000)(h:PW H O U gw cw T st Y vI V w)(hN:bZ T st<=a4)(hr:gH T st c):
 Calls prog 363 #[Qd O,t.g] w fun e w'=>e= .returned (Qc (wM T E t st).2)/\Aft H O U gw cw T vI Y V w (wM T E t st).1 w':=by
 have HE:Hid (mT H O U gw cw T vI 290 #[Qd O] E a4):=hE;have hn:st.L.length<=200000:=by unfold gH at hr;omega
 have h1:=h.alloc (eS t);have x1:=(Px.refl O U Y V w).alloc (eS t);have b2:=h1.boxed x1 {d:=4,at_:=t.e,s:=t.f} ⟨rfl,rfl,rfl,rfl,rfl,rfl,rfl,rfl⟩;have h2:=h1.alloc (tS {d:=4,at_:=t.e,s:=t.f});have x2:=x1.alloc (tS {d:=4,at_:=t.e,s:=t.f});have e1:(w.alloc (eS t)).1.size=w.1.size+1:=Od
 rw[e1]at b2
 have M:Hid (wM T E t st=(if dF T st qD=true then
  (cQ {d:=5,at_:=t.e,s:=t.f,c:=[(E (aO T qD st)).2]} (cN T tI (E (aO T qD st)).1),((E (aO T qD st)).1.L.length:Int))
 else if dF T st cR=true then
  (cQ {d:=6,at_:=t.e,s:=t.f,c:=(eO T E T.length (!dF T (aO T cR st) fR) [] (aO T cR st)).2} (cN T fR (eO T E T.length (!dF T (aO T cR st) fR) [] (aO T cR st)).1),((eO T E T.length (!dF T (aO T cR st) fR) [] (aO T cR st)).1.L.length:Int))
 else(cQ {d:=4,at_:=t.e,s:=t.f} st,(st.L.length:Int)))):=rfl
 clear hE h h1 x1 e1;unfold aU.g;go_enter func363,ntmps363
 go_wp2_with fail
 refine(pG qD h2).mono ?_;rintro e w3 ⟨rfl,n3,rfl⟩;go_wp2_with fail
 refine(pG cR (h2.drewN n3)).mono ?_;rintro e w4 ⟨rfl,n4,rfl⟩;have L:=(h2.drewN n3).drewN n4;have S:=(x2.drewN n3).drewN n4;have a:Bx H O U gw Y vI V w.1.size (w.1.size+1) {d:=4,at_:=t.e,s:=t.f} v0 (((((w.alloc (eS t)).alloc (tS {d:=4,at_:=t.e,s:=t.f})).drewN n3)).drewN n4):=b2.old (fun _ _=>rfl);clear h2 x2 b2;generalize (((((w.alloc (eS t)).alloc (tS {d:=4,at_:=t.e,s:=t.f})).drewN n3)).drewN n4)=c5 at*;cases hbr:dF T st qD
 ·cases hro:dF T st cR
  ·
    obtain⟨⟨y0,y1,y2,y3,y4,y5⟩,⟨y6,J,K,y9,n⟩,f⟩:=a.cells
    have N:Hid (wM T E t st=(cQ {d:=4,at_:=t.e,s:=t.f} st,(st.L.length:Int))):=by
     rw[Hid,M.o,hbr,hro];rfl
    clear M hr hN;go_wp2_with fail
    refine(rX a L S hn).mono ?_;rintro e w5 ⟨rfl,v⟩;have X:Hid _:=v;clear v a L S y0 y1 y2 y3 y4 y5 y6 J K y9 n f;go_wp2;go_ret;rw[N.o];exact⟨rfl,X.o⟩
  ·
    obtain⟨_,_,f⟩:=a.cells;have f0:=f 0
    have N:Hid (wM T E t st=(cQ {d:=6,at_:=t.e,s:=t.f,c:=(eO T E T.length (!dF T (aO T cR st) fR) [] (aO T cR st)).2} (cN T fR (eO T E T.length (!dF T (aO T cR st) fR) [] (aO T cR st)).1),((eO T E T.length (!dF T (aO T cR st) fR) [] (aO T cR st)).1.L.length:Int))):=by
     rw[Hid,M.o,hbr,hro];rfl
    have b5:=a.d 6;have h5:=L.u0 a.o 0 (Qc 6);have x5:=S.j0 a.m 0 (Qc 6);clear f a L S M;go_wp2_with fail
    refine(yU cR h5).mono ?_;rintro e w6 ⟨rfl,r,B⟩;have b6:=b5.px (Px.i0 B (Y:=Y) (V:=V));have x6:=x5.t (Px.i0 B);have j4:=Qm (Gr.opn T cR st).need hN;have j1:gH T (aO T cR st) (c+0):=hr.gr (Gr.opn T cR st) (Nat.le_of_lt r.lt);clear f0 b5 h5 x5 B;generalize aO T cR st=G at*;go_wp2_with fail
    refine(pG fR r).mono ?_;rintro e j ⟨rfl,n7,rfl⟩;have i:=r.drewN n7;have W:=x6.drewN n7;have g:Bx H O U gw Y vI V w.1.size (w.1.size+1) {d:=6,at_:=t.e,s:=t.f} v0 (w6.drewN n7):=b6.old (fun _ _=>rfl);generalize w6.drewN n7=W7 at*;clear b6 r x6;obtain⟨i0,j9,j6,j5,k9⟩:=info_parts info3;go_wp2_with fail
    go_loopg [10] T.length (fun m b7 wr=>∃ (C:QS) (more:Bool) (l:List Int) (a3 v1:Value) (Vr:List V3),b7= .bool more/\PW H O U gw cw T C a3 vI Vr wr/\Px O U Y a3 V Vr w wr/\Bx H O U gw a3 vI Vr w.1.size (w.1.size+1) {d:=6,at_:=t.e,s:=t.f,c:=l} (v1,.slice none 0 0,.slice none 0 0) wr/\l.length+m<=T.length/\(more=true->bZ T C<=m)/\bZ T C<=a4/\(gH T C c\/(more=false/\gH T C (c+1)))/\eO T E m more l C=eO T E T.length (!dF T G fR) [] G)
    case atStart=>
     refine⟨G,_,[],Y,_,V,rfl,i,W,g,Od,fun _=>?_,j4,.l j1,rfl⟩;unfold bZ
     split
     ·omega
     ·exact Qn _
    case round=>
     obtain⟨C,more,l,a3,v1,Vr,rfl,hc,xc,bc,c8,F,g1,Q,j0⟩:=hrel;have HR:Hid (eO T E gk more l C=eO T E T.length (!dF T G fR) [] G):=j0;obtain⟨_,_,_,p3,_,_,_⟩:=hc.cells;clear j0 i W g j4 j1
     by_cases hd:more=true/\C.a=0
     ·obtain⟨rfl,k0⟩:=hd
      obtain⟨m,rfl⟩:∃ m,gk=m+1:=⟨gk - 1,by
       have F:=F rfl;unfold bZ at F;rw[if_pos k0]at F;have:=hc.lt;omega⟩
      have t0:(C.a==0)=true:=by simp[k0]
      have Q:gH T C c:=Q.resolve_right (fun h=>by cases h.1);have g0:=gE C
      have HS:Hid (eO T E m (dF T (E C).1 xY) (l++[(E C).2]) (if dF T (E C).1 xY=true then aG T (E C).1 else(E C).1)=eO T E T.length (!dF T G fR) [] G):=by
       rw[Hid,<-HR.o,eO,if_pos (c:=true=true/\C.a=0) ⟨rfl,k0⟩]
      have HM:Hid (bZ T C<=m+1/\C.a=0):=⟨F rfl,k0⟩;clear HR F;go_wp2_with fail
      refine(HE.o _ _ _ _ c Oa hc g1 Q).mono ?_;rintro e k ⟨rfl,a2,Z,u,x8⟩;have b:=bc.px x8;have K:=xc.t x8;have g4:=Q.gr g0 (Nat.le_of_lt u.lt);have g7:=Qm g0.need g1;have g5:bZ T (E C).1<=m+1:=Qm g0.need HM.o.1;clear bc xc x8 hc p3 t0 k0;have b9:=b.old (w':=k.alloc (Qf #[Qc (E C).2] 3)) (fun _ D=>On D);obtain⟨⟨_,_,_,_,_,z⟩,_,_⟩:=b.cells;have z:k.cell? ⟨w.1.size+1,5,none⟩=some v1:=z;obtain⟨⟨_,_,_,_,_,d5⟩,_,f⟩:=b9.cells;have f5:=f 5;have d2:=u.t0;have j7:=b.lt;have c7:=u.few;have P:=b.n.k;obtain⟨ao,cp,rfl,_⟩:=bP P;have R:some (w.1.size+1)≠(Value.slice ao l.length cp).ownBlock:=fun e=>b.ne (.l e.symm) rfl;generalize hy:(E C).2=y at*;generalize g8:(E C).1=q at*;have hB:Hid (Bx H O U gw a2 vI Z w.1.size (w.1.size+1) {d:=6,at_:=t.e,s:=t.f,c:=l} (.slice ao l.length cp,.slice none 0 0,.slice none 0 0) k/\PW H O U gw cw T q a2 vI Z k/\Px O U Y a2 V Z w k):=⟨b,u,K⟩;clear f b b9 u K hy g8;go_upto_region 18 with(at_builtin;refine wpList_append_lies _ rfl _ _ 70 rfl H 3 i0 _ 1 8 underlying70 j9 j6 j5 k9 rfl Oa (.slice ao l.length cp) l.length (fQ l) rfl (P.alloc _) ⟨k.1.size,0,none⟩ 1 1 [Qc y] rfl rfl (World.news_of_block (cs:=#[Qc y]) (t:=3) (fr:=(0,0)) (Qk k _)) (by simp[Value.oneCell']) Oa (by unfold maxLen;omega) Oa (by simp;omega) (k.1.size+1) Od ?_;intro gg a6 w9 k3 o j2 k6;have q5:=(o.frozen_far ⟨w.1.size+1,5,none⟩ (by simp;omega) R).t f5;have q6:=(o.cell_far ⟨w.1.size+1,5,none⟩ (by simp;omega) R).t d5)
      obtain⟨b,u,K⟩:=hB.o;obtain⟨I,p,n⟩:=b.kid u K rfl ⟨rfl,rfl⟩ (x:=y) (w1:=k.alloc (Qf #[Qc y] 3)) ⟨rfl,rfl,rfl,Od⟩ (fun _ D=>On D) k3 o (j2.imp id (fun e=>by simpa using e));clear b u K hB P k3 o j2 k6 q5 q6 z d5 f5 j7 R;go_wp2_with fail
      refine(pG xY p).mono ?_;rintro e b3 ⟨rfl,a9,rfl⟩;cases hcm:dF T q xY
      ·go_wp2;go_roundg m
       case rel=>
        refine⟨q,false,l++[y],_,_,_,rfl,p.drewN _,n.drewN _,I.old (fun _ _=>rfl),by simp;omega,(fun h=>by cases h),g7,.r ⟨rfl,g4⟩,?_⟩;have:=HS.o;rw[hcm]at this;exact this
       case measure=>omega
      ·go_wp2_with fail
       refine(lG (p.drewN a9)).mono ?_;rintro e d3 ⟨rfl,g3,a8⟩;unfold aU.g;go_wp2;go_roundg m
       case rel=>
        have j3:=jX T q (pK hcm);have b4:Bx H O U gw a2 vI Z w.1.size (w.1.size+1) {d:=6,at_:=t.e,s:=t.f,c:=l++[y]} (Qe gg (l.length+1) a6,.slice none 0 0,.slice none 0 0) ((w9.setCell ⟨w.1.size+1,5,none⟩ (Qe gg (l.length+1) a6)).drewN a9):=I.old (fun _ _=>rfl);refine⟨aG T q,true,l++[y],_,_,_,rfl,g3,(n.drewN _).t (Px.i0 a8),b4.px (Px.i0 a8 (Y:=a2) (V:=Z)),by simp;omega,fun _=>?_,Qm (Gr.bz T q).need g7,.l ?_,?_⟩
        ·unfold bZ at g5 ⊢;rw[j3];have:=g3.lt;rw[j3]at this
         split
         ·rename_i h0
          have:q.a=0:=by
           by_cases h:q.a=0
           ·exact h
           ·exact absurd (((Gr.bz T q).stick h).1 ▸ h0) h
          rw[if_pos this]at g5;omega
         ·exact Qn _
        ·have g2:=g3.lt;unfold gH at g4 ⊢;rw[aV,j3];rw[j3]at g2;omega
        ·have:=HS.o;rw[hcm]at this;exact this
       case measure=>omega
     ·have HF:Hid (eO T E gk more l C=(C,l)):=by
       cases gk
       ·rfl
       ·exact if_neg hd
      have d0:C.L.length<=200000:=by
       rcases Q with h|⟨_,h⟩<;>(unfold gH at h;omega)
      have k9:Hid (wM T E t st=(cQ {d:=6,at_:=t.e,s:=t.f,c:=l} (cN T fR C),(C.L.length:Int))):=by
       rw[Hid,N.o,<-HR.o,HF.o]
      have d1:more=false\/(more=true/\(C.a==0)=false):=by
       cases more
       ·exact .l rfl
       ·exact .r ⟨rfl,by simpa using fun e=>hd ⟨rfl,e⟩⟩
      clear hd F g1 Q N HR HF;rcases d1 with rfl|⟨rfl,t0⟩
      all_goals
       go_wp2_with fail
       refine(yN fR hc).mono ?_;rintro e b8 ⟨rfl,p,A⟩;have I:=bc.px (Px.i0 A (Y:=a3) (V:=Vr));have n:=xc.t (Px.i0 A);obtain⟨⟨z0,z1,z2,z3,z4,z5⟩,⟨z6,z7,z8,z9,a7⟩,zf⟩:=I.cells;have k5:(cN T fR C).L.length<=200000:=by rw[fI];exact d0
       clear bc xc A;go_wp2_with fail
       refine(rX I p n k5).mono ?_;rintro e b3 ⟨rfl,v⟩;have X:Hid _:=v;clear v I p n z0 z1 z2 z3 z4 z5 z6 z7 z8 z9 a7 zf;go_wp2;go_ret;rw[k9.o,fI];exact⟨rfl,X.o⟩
 ·
   obtain⟨_,_,f⟩:=a.cells;have f0:=f 0
   have N:Hid (wM T E t st=(cQ {d:=5,at_:=t.e,s:=t.f,c:=[(E (aO T qD st)).2]} (cN T tI (E (aO T qD st)).1),((E (aO T qD st)).1.L.length:Int))):=by
    rw[Hid,M.o,hbr];rfl
   have b5:=a.d 5;have h5:=L.u0 a.o 0 (Qc 5);have x5:=S.j0 a.m 0 (Qc 5);clear f a L S M;go_wp2_with fail
   refine(yU qD h5).mono ?_;rintro e w6 ⟨rfl,r,B⟩;have b6:=b5.px (Px.i0 B (Y:=Y) (V:=V));have x6:=x5.t (Px.i0 B);have j4:=Qm (Gr.opn T qD st).need hN;have j1:gH T (aO T qD st) (c+0):=hr.gr (Gr.opn T qD st) (Nat.le_of_lt r.lt);have g6:=gE (aO T qD st);clear f0 b5 h5 x5 B;go_wp2_with fail
   refine(HE.o _ _ _ _ c Oa r j4 j1).mono ?_;rintro e j ⟨rfl,a5,V7,i,W⟩;have g:=b6.px W;have J:=x6.t W;have g9:=j1.gr g6 (Nat.le_of_lt i.lt);clear b6 x6 W g6;obtain⟨i0,j9,j6,j5,k9⟩:=info_parts info3;have b:=g.old (w':=j.alloc (Qf #[Qc (E (aO T qD st)).2] 3)) (fun _ D=>On D);obtain⟨⟨_,_,_,_,_,z⟩,_,_⟩:=g.cells;have z:j.cell? ⟨w.1.size+1,5,none⟩=some (.slice none 0 0):=z;obtain⟨⟨_,_,_,_,_,d5⟩,_,f⟩:=b.cells;have f5:=f 5;have c9:=i.t0;have j8:=g.lt;generalize (E (aO T qD st)).2=y at*;generalize (E (aO T qD st)).1=s7 at*;have P:=g.n.k;have R:some (w.1.size+1)≠v0.1.ownBlock:=by simp[v0,Value.ownBlock]
   have hB:Hid (Bx H O U gw a5 vI V7 w.1.size (w.1.size+1) {d:=5,at_:=t.e,s:=t.f} v0 j/\PW H O U gw cw T s7 a5 vI V7 j/\Px O U Y a5 V V7 w j):=⟨g,i,J⟩;clear f g i J r b;go_upto_region 9 with(at_builtin;refine wpList_append_lies _ rfl _ _ 70 rfl H 3 i0 _ 1 8 underlying70 j9 j6 j5 k9 rfl Oa (.slice none 0 0) 0 [] rfl (P.alloc _) ⟨j.1.size,0,none⟩ 1 1 [Qc y] rfl rfl (World.news_of_block (cs:=#[Qc y]) (t:=3) (fr:=(0,0)) (Qk j _)) (by simp[Value.oneCell']) Oa (by unfold maxLen;omega) Oa (by simp;omega) (j.1.size+1) Od ?_;intro gg a6 k k4 o j2 k6;have q5:=(o.frozen_far ⟨w.1.size+1,5,none⟩ (by simp;omega) R).t f5;have q6:=(o.cell_far ⟨w.1.size+1,5,none⟩ (by simp;omega) R).t d5)
   obtain⟨g,i,J⟩:=hB.o;obtain⟨b9,h9,y9⟩:=g.kid i J rfl ⟨rfl,rfl⟩ (x:=y) (w1:=j.alloc (Qf #[Qc y] 3)) ⟨rfl,rfl,rfl,Od⟩ (fun _ D=>On D) k4 o (j2.imp id (fun e=>by simpa using e));clear g i J hB P k4 o j2 k6 q5 q6 z d5 f5 j8;go_wp2_with fail
   refine(yN tI h9).mono ?_;rintro e b8 ⟨rfl,p,A⟩;have I:=b9.px (Px.i0 A (Y:=a5) (V:=V7));have n:=y9.t (Px.i0 A);obtain⟨⟨z0,z1,z2,z3,z4,z5⟩,⟨z6,z7,z8,z9,a7⟩,zf⟩:=I.cells;have k5:(cN T tI s7).L.length<=200000:=by rw[fI];unfold gH at g9;omega
   clear b9 h9 y9 A;go_wp2_with fail
   refine(rX I p n k5).mono ?_;rintro e b3 ⟨rfl,v⟩;have X:Hid _:=v;clear v I p n z0 z1 z2 z3 z4 z5 z6 z7 z8 z9 a7 zf;go_wp2;go_ret;rw[N.o,fI];exact⟨rfl,X.o⟩
end
section
variable {H O U gw cw:Nat} {T:List aU} {vI:Value}
theorem PW.drew{st:QS}{Y:Value}{V:List V3}{w:World}(h:PW H O U gw cw T st Y vI V w):PW H O U gw cw T st Y vI V w.drew:=h.same fun _ _=>rfl
theorem Px.drew{Y b:Value}{V a:List V3}{w w':World}(h:Px O U Y b V a w w'):Px O U Y b V a w w'.drew:=⟨h.os,h.tape,h.output,h.size,h.keep,h.row,h.used⟩
theorem aTC(E F:QS->QS × Int)(gE:oG E)(gF:oG F)(N:Nat)(hE:mT H O U gw cw T vI 290 #[Qd O] E N)(hF:mT H O U gw cw T vI 360 #[Qd O] F N)(st:QS)(Y:Value)(V:List V3)(w:World)(c:Nat)(z0:c<=50000)(h:PW H O U gw cw T st Y vI V w)(z:bZ T st<=N+1)(J:gH T st c):
 Calls prog 360 #[Qd O] w fun e w'=>e= .returned (Qc (vT T E F st).2)/\Aft H O U gw cw T vI Y V w (vT T E F st).1 w':=by
 have HE:Hid (mT H O U gw cw T vI 290 #[Qd O] E N):=hE;have HF:Hid (mT H O U gw cw T vI 360 #[Qd O] F N):=hF;obtain⟨p0,p1,_,X,_,_,_⟩:=h.cells;obtain⟨x0,x1,x2,x3⟩:=h.w4;have a6:=h.lt;have a4:=h.few;have a7:=h.lt_pb;have a5:gw < w.1.size:=Qp w _ x0;have hi:0<=(st.i:Int)/\(st.i:Int) < (T.length:Int):=Oa
 have hn:st.L.length<=200000:=by unfold gH at J;omega
 have G:=(h.alloc (eS (aE T st.i))).drew;have xA:=((Px.refl O U Y V w).alloc (eS (aE T st.i))).drew;have qA:(w.alloc (eS (aE T st.i))).drew.1[w.1.size]?=some (Qf #[Qc (aE T st.i).d,Qc (aE T st.i).e,.string (aE T st.i).f,Qc (aE T st.i).a] 220):=Qk w _;have k4:=h.fresh Ol;clear hE hF h
 by_cases I:st.a=0
 ·have t0:(st.a !=0)=false:=by simp[I]
  have L:Hid (vT T E F st=(if(aE T st.i).d=2 then(cQ {d:=3,at_:=(aE T st.i).e,n:=(aE T st.i).a} (aG T st),(st.L.length:Int))
   else if(aE T st.i).d=1 then wM T E (aE T st.i) (aG T st)
   else if dF T st cR=true then(cN T fR (E (aO T cR st)).1,(E (aO T cR st)).2)
   else if dF T st fL=true then(cQ {d:=7,at_:=(aE T st.i).e,c:=[(F (aO T fL st)).2]} {(F (aO T fL st)).1 with op:=wrap64 ((F (aO T fL st)).1.op - 1)},((F (aO T fL st)).1.L.length:Int))
   else(dW T st,0))):=by
   unfold Hid vT;rw[if_neg (c:=st.a≠0) (by simp[I])]
  go_enter func360,ntmps360
  go_upto_region 1 with fail
  go_region
  clear p0 p1 X x0 x1 x2 x3;obtain⟨_,_,_,X,_,_,_⟩:=G.cells;generalize (w.alloc (eS (aE T st.i))).drew=a2 at*;go_wp2_with fail
  refine(pG cR G).mono ?_;rintro e w2 ⟨rfl,W,rfl⟩;go_wp2_with fail
  refine(pG fL (G.drewN W)).mono ?_;rintro e w3 ⟨rfl,n3,rfl⟩;have p:=(G.drewN W).drewN n3;have u:=(xA.drewN W).drewN n3;have g:((a2.drewN W).drewN n3).1[w.1.size]?=some (Qf #[Qc (aE T st.i).d,Qc (aE T st.i).e,.string (aE T st.i).f,Qc (aE T st.i).a] 220):=qA;clear X G xA qA;generalize (a2.drewN W).drewN n3=W3 at*;obtain⟨l0,j,l,m,o⟩:=bK g;have k5:(aE T st.i).d≠0->(aG T st).i=st.i+1:=jX T st
  by_cases A:(aE T st.i).d=2
  ·
    have u2:((aE T st.i).d==2)=true:=by simp[A]
    have i:Hid (vT T E F st=(cQ {d:=3,at_:=(aE T st.i).e,n:=(aE T st.i).a} (aG T st),(st.L.length:Int))):=by rw[Hid,L.o,if_pos A]
    clear L k5 J z A;go_wp2_with fail
    refine(lG p).mono ?_;rintro e w4 ⟨rfl,q,a⟩;have x:=u.t (Px.i0 a);have y:=(a.block _ (Oo g) Oa).t g;have hL:(aG T st).L=st.L:=aV;clear l0 j l m o p u g a;obtain⟨l0,j,l,m,o⟩:=bK y;generalize aE T st.i=t at*;unfold aU.g;go_wp2_with fail
    refine(tZ {d:=3,at_:=t.e,n:=t.a} v0 q (uA.none rfl rfl rfl) (fun k _=>wU k) (hL ▸ hn)).mono ?_;rintro e f ⟨rfl,P,b,s⟩;clear l0 j l m o y;go_wp2;go_ret;rw[i.o,<-hL];exact⟨rfl,P,_,b,(x.t s).more (fun k r=>absurd r (wU k))⟩
  have u2:((aE T st.i).d==2)=false:=by simp[A]
  by_cases M:(aE T st.i).d=1
  ·
    have u1:((aE T st.i).d==1)=true:=by simp[M]
    have i:Hid (vT T E F st=wM T E (aE T st.i) (aG T st)):=by rw[Hid,L.o,if_neg A,if_pos M]
    have k6:=k5 Oa
    have z1:bZ T (aG T st)<=N:=by
     unfold bZ at z ⊢;rw[if_pos I]at z
     split
     ·rw[k6];omega
     ·exact Qn _
    have y2:gH T (aG T st) c:=by
     unfold gH at J ⊢;rw[k6,aV];omega
    clear L k5 J z A M k6;go_wp2_with fail
    refine(lG p).mono ?_;rintro e w4 ⟨rfl,q,a⟩;have x:=u.t (Px.i0 a);have y:=(a.block _ (Oo g) Oa).t g;clear l0 j l m o p u g a;obtain⟨l0,j,l,m,o⟩:=bK y;generalize aE T st.i=t at*;unfold aU.g;go_wp2_with fail
    refine(aU0 E gE N HE.o t _ _ _ _ c z0 q z1 y2).mono ?_;rintro e f ⟨rfl,P,V5,b,s⟩;clear l0 j l m o y;go_wp2;go_ret;rw[i.o];exact⟨rfl,P,V5,b,x.t s⟩
  have u1:((aE T st.i).d==1)=false:=by simp[M]
  have K:Hid (vT T E F st=(if dF T st cR=true then(cN T fR (E (aO T cR st)).1,(E (aO T cR st)).2)
   else if dF T st fL=true then(cQ {d:=7,at_:=(aE T st.i).e,c:=[(F (aO T fL st)).2]} {(F (aO T fL st)).1 with op:=wrap64 ((F (aO T fL st)).1.op - 1)},((F (aO T fL st)).1.L.length:Int))
   else(dW T st,0))):=by rw[Hid,L.o,if_neg A,if_neg M]
  have k0:∀ B,dF T st B=true->bZ T (aO T B st)<=N:=fun B hb=>by
   unfold bZ at z ⊢;rw[if_pos I]at z;rcases aKX hb with h0|⟨h1,_⟩
   ·rw[if_neg h0];exact Qn _
   ·split
    ·rw[h1];omega
    ·exact Qn _
  have S:∀ B,gH T (aO T B st) (c+0):=fun B=>by
   have h1:=Gr.opn T B st;unfold gH at J ⊢;have:=h1.room;have:=h1.i;have:(aO T B st).L.length=st.L.length:=by rw[pO]
   omega
  clear L k5 J z A M;cases hb1:dF T st cR
  ·cases hb2:dF T st fL
   ·
     have i:Hid (vT T E F st=(dW T st,0)):=by rw[Hid,K.o,hb1,hb2];rfl
     clear K k0 S;go_wp2_with fail
     refine(xE p).mono ?_;rintro e w4 ⟨rfl,q,a⟩;have x:=u.t (Px.i0 a);clear l0 j l m o p u g a;go_wp2;go_ret;rw[i.o];exact⟨rfl,Y,V,q,x⟩
   ·
     have i:Hid (vT T E F st=(cQ {d:=7,at_:=(aE T st.i).e,c:=[(F (aO T fL st)).2]} {(F (aO T fL st)).1 with op:=wrap64 ((F (aO T fL st)).1.op - 1)},((F (aO T fL st)).1.L.length:Int))):=by rw[Hid,K.o,hb1,hb2];rfl
     have k7:=k0 fL hb2;have k3:=S fL;clear K k0 S;go_wp2_with fail
     refine(yU fL p).mono ?_;rintro e w4 ⟨rfl,q,a⟩;have x:=u.t (Px.i0 a);have y:=(a.block _ (Oo g) Oa).t g;have hg:=gF (aO T fL st);clear l0 j l m o p u g a;generalize aO T fL st=Z at*;go_wp2_with fail
     refine(HF.o _ _ _ _ c Oa q k7 k3).mono ?_;rintro e f ⟨rfl,P,V5,b,s⟩;have Q:=x.t s;have q5:=(s.keep _ (Oo y) k4.p k4.g k4.l).t y;have k9:=k3.gr hg (Nat.le_of_lt b.lt);obtain⟨_,_,p2,_,_,_,pf⟩:=b.cells;have f2:=pf 2;obtain⟨l0,j,l,m,o⟩:=bK q5;generalize (F Z).2=D at*;generalize (F Z).1=C at*;have R:=b.put (st':={C with op:=wrap64 (C.op - 1)}) ((Ex.refl O f).set 2 (Qc (wrap64 (C.op - 1)))) rfl rfl b.lt (aI _ b.par);have y6:=Q.t (Px.i0 R.2);have m1:(f.setCell ⟨O,2,none⟩ (Qc (wrap64 (C.op - 1)))).cell? ⟨w.1.size,1,none⟩=some (Qc (aE T st.i).e):=(bK ((Om k4.p).t q5)).2.1;have h7:=R.1.alloc (Qf #[Qc D] 3);have y7:=y6.alloc (Qf #[Qc D] 3);have y0:w.1.size<=f.1.size:=Q.size
     have k8:∀ k,iX (Qe f.1.size 1 1,.slice none 0 0,.slice none 0 0) k->k=f.1.size:=by
      rintro k (r|r|r)<;>simp[Value.ownBlock]at r;exact r.symm
     have hv:uA H ((f.setCell ⟨O,2,none⟩ (Qc (wrap64 (C.op - 1)))).alloc (Qf #[Qc D] 3)) {d:=7,at_:=(aE T st.i).e,c:=[D]} (Qe f.1.size 1 1,.slice none 0 0,.slice none 0 0):=
      ⟨⟨rfl,.r ⟨f.1.size,1,#[Qc D],rfl,b.t0,by have:=Qk (f.setCell ⟨O,2,none⟩ (Qc (wrap64 (C.op - 1)))) (Qf #[Qc D] 3);simpa[World.setCell]using this,Ql _,Ob,rfl,rfl⟩⟩,⟨rfl,.l ⟨rfl,rfl⟩⟩,⟨rfl,.l ⟨rfl,rfl⟩⟩⟩
     have y1:∀ k,vI.ownBlock=some k->¬iX (Qe f.1.size 1 1,.slice none 0 0,.slice none 0 0) k:=fun k r hu=>absurd (fC b.its r) (by rw[k8 k hu];omega);have y9:C.L.length<=200000:=by unfold gH at k9;omega
     clear l0 j l m o pf b R s Q y6 q5 y k9;go_wp2_with fail
     refine(tZ {d:=7,at_:=(aE T st.i).e,c:=[D]} _ h7 hv y1 y9).mono ?_;rintro e w8 ⟨rfl,a3,h8,x8⟩;have y8:=(y7.t x8).more (v:=(Qe f.1.size 1 1,.slice none 0 0,.slice none 0 0)) (fun k r=>by rw[k8 k r];exact y0);clear p2 f2 m1 h7 hv x8 y7;go_wp2;go_ret;rw[i.o];exact⟨rfl,a3,_,h8,y8⟩
  ·
    have i:Hid (vT T E F st=(cN T fR (E (aO T cR st)).1,(E (aO T cR st)).2)):=by rw[Hid,K.o,hb1];rfl
    have k7:=k0 cR hb1;have k3:=S cR;clear K k0 S;go_wp2_with fail
    refine(yU cR p).mono ?_;rintro e w4 ⟨rfl,q,a⟩;have x:=u.t (Px.i0 a);clear l0 j l m o p u g a;generalize aO T cR st=Z at*;go_wp2_with fail
    refine(HE.o _ _ _ _ c Oa q k7 k3).mono ?_;rintro e f ⟨rfl,P,V5,b,s⟩;have Q:=x.t s;clear q x s;generalize (E Z).2=D at*;generalize (E Z).1=C at*;go_wp2_with fail
    refine(yN fR b).mono ?_;rintro e w6 ⟨rfl,R,e6⟩;have y6:=Q.t (Px.i0 e6);clear b Q e6;go_wp2;go_ret;rw[i.o];exact⟨rfl,P,V5,R,y6⟩
 ·have t0:(st.a !=0)=true:=by simp[I]
  have i:Hid (vT T E F st=(st,0)):=if_pos I;clear I J z;go_enter func360,ntmps360
  go_upto_region 1 with fail
  go_region
  clear p0 p1 X x0 x1 x2 x3 qA;obtain⟨_,_,_,X,_,_,_⟩:=G.cells;generalize (w.alloc (eS (aE T st.i))).drew=a2 at*;go_wp2;go_ret;rw[i.o];exact⟨rfl,Y,V,G,xA⟩
end
section
variable {H O U gw cw:Nat} {T:List aU} {vI:Value}
theorem aJ6(F:QS->QS × Int)(j:∀ st:QS,st.a≠0->F st=(st,0)):mT H O U gw cw T vI 360 #[Qd O] F 0:=by
 intro st Y V w c p h a i
 have b:st.a≠0:=fun e=>by
  unfold bZ at a;rw[if_pos e]at a;have:=h.lt;omega
 obtain⟨p0,k,_,f,_,_,_⟩:=h.cells;obtain⟨x0,l,m,n⟩:=h.w4;have s:=h.lt;have q:=h.few;have t:=h.lt_pb;have r:gw < w.1.size:=Qp w _ x0;have hi:0<=(st.i:Int)/\(st.i:Int) < (T.length:Int):=Oa
 have d:=(h.alloc (eS (aE T st.i))).drew;have o:=((Px.refl O U Y V w).alloc (eS (aE T st.i))).drew;have t0:(st.a !=0)=true:=by simp[b]
 have g:Hid (F st=(st,0)):=j st b;clear b i a h;go_enter func360,ntmps360
 go_upto_region 1 with fail
 go_region
 clear p0 k f x0 l m n;obtain⟨_,_,_,f,_,_,_⟩:=d.cells;generalize (w.alloc (eS (aE T st.i))).drew=W at*;go_wp2;go_ret;rw[g.o];exact⟨rfl,Y,V,d,o⟩
theorem aWK:∀ N,mT H O U gw cw T vI 290 #[Qd O] (zV T (N+1)).1 N/\mT H O U gw cw T vI 360 #[Qd O] (zV T (N+1)).2 N:=by
 intro N
 induction N with
 |zero=>
  have a:=aJ6 (H:=H) (O:=O) (U:=U) (gw:=gw) (cw:=cw) (T:=T) (vI:=vI) (zV T 1).2 (iL T 1).2.2;exact⟨aTD _ (iL T 1).1.2 0 a,a⟩
 |succ N ih=>
  have a:mT H O U gw cw T vI 360 #[Qd O] (zV T (N+2)).2 (N+1):=fun st Y V w c d h b e=>aTC _ _ (iL T (N+1)).1.1 (iL T (N+1)).1.2 N ih.1 ih.2 st Y V w c d h b e;exact⟨aTD _ (iL T (N+2)).1.2 (N+1) a,a⟩
theorem aFW:mT H O U gw cw T vI 290 #[Qd O] (qE T) T.length:=(aWK T.length).1
def mC(K H O U gw cw:Nat)(T:List aU)(vI:Value)(f:Nat)(args:Array Value)(P:QS->QS × Int)(N:Nat):Prop:=
 ∀ (st:QS) (Y:Value) (V:List V3) (w:World) (c:Nat),c<=K->PW H O U gw cw T st Y vI V w->bZ T st<=N->gH T st c->Calls prog f args w fun e w'=>e= .returned (Qc (P st).2)/\Aft H O U gw cw T vI Y V w (P st).1 w'
theorem aYR(P:QS->QS × Int)(t:Grn 3 P)(N:Nat)(R:mC 40000 H O U gw cw T vI 361 #[Qd O] P N):
 mC 40000 H O U gw cw T vI 350 #[Qd O] (aGK T P sG 10) N:=by
 intro st Y V B c k7 h u w;have I:Hid (mC 40000 H O U gw cw T vI 361 #[Qd O] P N):=R;clear R;go_enter func350,ntmps350
 go_wp2_with fail
 refine(I.o st Y V B c k7 h u w).mono ?_;rintro e w1 ⟨rfl,a2,V1,p,x1⟩;have k9:bZ T (P st).1<=N:=Qm (t st).need u;have k5:gH T (P st).1 (c+3):=w.gr (t st) (Nat.le_of_lt p.lt);have y1:Hid (aGK T P sG 10 st=jR T P sG 10 T.length (P st).2 (P st).1):=rfl;clear h u w;generalize (P st).1=q at*;generalize (P st).2=x0 at*;go_wp2_with fail
 refine(pG sG p).mono ?_;rintro e w2 ⟨rfl,A,rfl⟩;have K:=p.drewN A;have x2:=x1.drewN A;generalize w1.drewN A=W2 at*;clear p x1;go_wp2_with fail
 go_loopg [3,4] T.length (fun m v3 v4 wr=>∃ (C:QS) (x:Int) (r:Value) (o:List V3),v3= Qc x/\v4= .bool (dF T C sG)/\PW H O U gw cw T C r vI o wr/\Px O U Y r V o B wr/\bZ T C<=m/\bZ T C<=N/\gH T C (c+3)/\jR T P sG 10 m x C=jR T P sG 10 T.length x0 q)
 case atStart=>
  refine⟨q,x0,a2,V1,rfl,rfl,K,x2,?_,k9,k5,rfl⟩;unfold bZ
  split
  ·omega
  ·exact Qn _
 case round=>
  obtain⟨C,x,r,o,rfl,rfl,i,F,n,k8,X,h0⟩:=hrel;have s:Hid (jR T P sG 10 gk x C=jR T P sG 10 T.length x0 q):=h0;obtain⟨_,_,_,p3,_,_,_⟩:=i.cells;clear h0 K x2 k9 k5
  by_cases a:dF T C sG=true/\C.a=0
  ·obtain⟨m,rfl⟩:∃ m,gk=m+1:=⟨gk - 1,by
    unfold bZ at n;rw[if_pos a.2]at n;have:=i.lt;omega⟩
   have g:=a.1;have t0:(C.a==0)=true:=by simp[a.2]
   have k0:=jX T C (pK a.1);have G:Hid (dF T C sG=true/\C.a=0):=a;have z:bZ T (aG T C)<=N:=Qm (Gr.bz T C).need k8
   have h9:(aG T C).L.length+8*(T.length - (aG T C).i)+5<=100000+c:=by
    unfold gH at X;rw[k0,aV];have:=i.lt;omega
   have Z:gH T (aG T C) c:=by unfold gH;omega
   have k6:bZ T (aG T C)<=m:=by
    unfold bZ at n ⊢;rw[if_pos a.2]at n
    split
    ·rw[k0];omega
    ·exact Qn _
   clear a;rw[g];go_wp2_with fail
   refine(lG i).mono ?_;rintro e w3 ⟨rfl,L,J⟩;unfold aU.g;have j:=t (aG T C);have D:=F.t (Px.i0 J);clear F J p3 i;go_wp2_with fail
   refine(I.o _ _ _ _ c k7 L z Z).mono ?_;rintro e f ⟨rfl,a4,V5,l,E⟩;have y5:=Qm j.need z;have y3:=Qm j.need k6
   have a3:(P (aG T C)).1.L.length+8*(T.length - (P (aG T C)).1.i)+2<=100000+c:=by
    have:=j.room;have:=j.i;have:=l.lt;omega
   have HS:Hid (jR T P sG 10 m (P (aG T C)).1.L.length (cQ {d:=10,c:=[x,(P (aG T C)).2]} (P (aG T C)).1)=jR T P sG 10 T.length x0 q):=by
    rw[Hid,<-s.o];exact(if_pos G.o).symm
   clear L j k0 z k6 Z h9 s G;generalize (P (aG T C)).2=y at*;generalize (P (aG T C)).1=s5 at*;have M:=l.alloc (Qf #[Qc x,Qc y] 3);have S:uA H (f.alloc (Qf #[Qc x,Qc y] 3)) {d:=10,c:=[x,y]} (Qe f.1.size 2 2,.slice none 0 0,.slice none 0 0):=⟨wP _ l.t0 _ _,⟨rfl,.l ⟨rfl,rfl⟩⟩,⟨rfl,.l ⟨rfl,rfl⟩⟩⟩
   have W:∀ k,iX (Qe f.1.size 2 2,.slice none 0 0,.slice none 0 0) k->k=f.1.size:=by
    rintro k (b|b|b)<;>simp[Value.ownBlock]at b;exact b.symm
   have y0:∀ k,vI.ownBlock=some k->¬iX (Qe f.1.size 2 2,.slice none 0 0,.slice none 0 0) k:=fun k b hu=>absurd (fC l.its b) (by rw[W k hu];omega);have y2:s5.L.length<=200000:=Oa
   have x6:=(D.t E).alloc (Qf #[Qc x,Qc y] 3);have h8:B.1.size<=f.1.size:=(D.t E).size;clear l D E;go_wp2_with fail
   refine(tZ {d:=10,c:=[x,y]} _ M S y0 y2).mono ?_;rintro e w7 ⟨rfl,a5,Q,x7⟩;have x8:=(x6.t x7).more (v:=(Qe f.1.size 2 2,.slice none 0 0,.slice none 0 0)) (fun k b=>by rw[W k b];exact h8);clear M S x6 x7;go_wp2_with fail
   refine(pG sG Q).mono ?_;rintro e w8 ⟨rfl,n8,rfl⟩;go_wp2;go_roundg m
   case rel=>exact⟨_,_,_,_,rfl,rfl,Q.drewN _,x8.drewN _,y3,y5,by unfold gH;simp only[cQ,List.length_append,List.length_cons,List.length_nil];omega,HS.o⟩
   case measure=>omega
  ·have HF:Hid (jR T P sG 10 gk x C=(C,x)):=by
    cases gk
    ·rfl
    ·exact if_neg a
   have y4:dF T C sG=false\/(dF T C sG=true/\(C.a==0)=false):=by
    cases g:dF T C sG
    ·exact .l rfl
    ·exact .r ⟨rfl,by simpa using fun e=>a ⟨g,e⟩⟩
   clear a n k8 X;rcases y4 with g|⟨g,t0⟩
   all_goals
    rw[g];go_wp2;go_ret;rw[y1.o,<-s.o,HF.o];exact⟨rfl,r,o,i,F⟩
theorem aYS(P:QS->QS × Int)(t:Grn 3 P)(N:Nat)(R:mC 40000 H O U gw cw T vI 350 #[Qd O] P N):
 mC 40000 H O U gw cw T vI 331 #[Qd O] (aGK T P orT 11) N:=by
 intro st Y V B c k7 h u w;have I:Hid (mC 40000 H O U gw cw T vI 350 #[Qd O] P N):=R;clear R;go_enter func331,ntmps331
 go_wp2_with fail
 refine(I.o st Y V B c k7 h u w).mono ?_;rintro e w1 ⟨rfl,a2,V1,p,x1⟩;have k9:bZ T (P st).1<=N:=Qm (t st).need u;have k5:gH T (P st).1 (c+3):=w.gr (t st) (Nat.le_of_lt p.lt);have y1:Hid (aGK T P orT 11 st=jR T P orT 11 T.length (P st).2 (P st).1):=rfl;clear h u w;generalize (P st).1=q at*;generalize (P st).2=x0 at*;go_wp2_with fail
 refine(pG orT p).mono ?_;rintro e w2 ⟨rfl,A,rfl⟩;have K:=p.drewN A;have x2:=x1.drewN A;generalize w1.drewN A=W2 at*;clear p x1;go_wp2_with fail
 go_loopg [3,4] T.length (fun m v3 v4 wr=>∃ (C:QS) (x:Int) (r:Value) (o:List V3),v3= Qc x/\v4= .bool (dF T C orT)/\PW H O U gw cw T C r vI o wr/\Px O U Y r V o B wr/\bZ T C<=m/\bZ T C<=N/\gH T C (c+3)/\jR T P orT 11 m x C=jR T P orT 11 T.length x0 q)
 case atStart=>
  refine⟨q,x0,a2,V1,rfl,rfl,K,x2,?_,k9,k5,rfl⟩;unfold bZ
  split
  ·omega
  ·exact Qn _
 case round=>
  obtain⟨C,x,r,o,rfl,rfl,i,F,n,k8,X,h0⟩:=hrel;have s:Hid (jR T P orT 11 gk x C=jR T P orT 11 T.length x0 q):=h0;obtain⟨_,_,_,p3,_,_,_⟩:=i.cells;clear h0 K x2 k9 k5
  by_cases a:dF T C orT=true/\C.a=0
  ·obtain⟨m,rfl⟩:∃ m,gk=m+1:=⟨gk - 1,by
    unfold bZ at n;rw[if_pos a.2]at n;have:=i.lt;omega⟩
   have g:=a.1;have t0:(C.a==0)=true:=by simp[a.2]
   have k0:=jX T C (pK a.1);have G:Hid (dF T C orT=true/\C.a=0):=a;have z:bZ T (aG T C)<=N:=Qm (Gr.bz T C).need k8
   have h9:(aG T C).L.length+8*(T.length - (aG T C).i)+5<=100000+c:=by
    unfold gH at X;rw[k0,aV];have:=i.lt;omega
   have Z:gH T (aG T C) c:=by unfold gH;omega
   have k6:bZ T (aG T C)<=m:=by
    unfold bZ at n ⊢;rw[if_pos a.2]at n
    split
    ·rw[k0];omega
    ·exact Qn _
   clear a;rw[g];go_wp2_with fail
   refine(lG i).mono ?_;rintro e w3 ⟨rfl,L,J⟩;unfold aU.g;have j:=t (aG T C);have D:=F.t (Px.i0 J);clear F J p3 i;go_wp2_with fail
   refine(I.o _ _ _ _ c k7 L z Z).mono ?_;rintro e f ⟨rfl,a4,V5,l,E⟩;have y5:=Qm j.need z;have y3:=Qm j.need k6
   have a3:(P (aG T C)).1.L.length+8*(T.length - (P (aG T C)).1.i)+2<=100000+c:=by
    have:=j.room;have:=j.i;have:=l.lt;omega
   have HS:Hid (jR T P orT 11 m (P (aG T C)).1.L.length (cQ {d:=11,c:=[x,(P (aG T C)).2]} (P (aG T C)).1)=jR T P orT 11 T.length x0 q):=by
    rw[Hid,<-s.o];exact(if_pos G.o).symm
   clear L j k0 z k6 Z h9 s G;generalize (P (aG T C)).2=y at*;generalize (P (aG T C)).1=s5 at*;have M:=l.alloc (Qf #[Qc x,Qc y] 3);have S:uA H (f.alloc (Qf #[Qc x,Qc y] 3)) {d:=11,c:=[x,y]} (Qe f.1.size 2 2,.slice none 0 0,.slice none 0 0):=⟨wP _ l.t0 _ _,⟨rfl,.l ⟨rfl,rfl⟩⟩,⟨rfl,.l ⟨rfl,rfl⟩⟩⟩
   have W:∀ k,iX (Qe f.1.size 2 2,.slice none 0 0,.slice none 0 0) k->k=f.1.size:=by
    rintro k (b|b|b)<;>simp[Value.ownBlock]at b;exact b.symm
   have y0:∀ k,vI.ownBlock=some k->¬iX (Qe f.1.size 2 2,.slice none 0 0,.slice none 0 0) k:=fun k b hu=>absurd (fC l.its b) (by rw[W k hu];omega);have y2:s5.L.length<=200000:=Oa
   have x6:=(D.t E).alloc (Qf #[Qc x,Qc y] 3);have h8:B.1.size<=f.1.size:=(D.t E).size;clear l D E;go_wp2_with fail
   refine(tZ {d:=11,c:=[x,y]} _ M S y0 y2).mono ?_;rintro e w7 ⟨rfl,a5,Q,x7⟩;have x8:=(x6.t x7).more (v:=(Qe f.1.size 2 2,.slice none 0 0,.slice none 0 0)) (fun k b=>by rw[W k b];exact h8);clear M S x6 x7;go_wp2_with fail
   refine(pG orT Q).mono ?_;rintro e w8 ⟨rfl,n8,rfl⟩;go_wp2;go_roundg m
   case rel=>exact⟨_,_,_,_,rfl,rfl,Q.drewN _,x8.drewN _,y3,y5,by unfold gH;simp only[cQ,List.length_append,List.length_cons,List.length_nil];omega,HS.o⟩
   case measure=>omega
  ·have HF:Hid (jR T P orT 11 gk x C=(C,x)):=by
    cases gk
    ·rfl
    ·exact if_neg a
   have y4:dF T C orT=false\/(dF T C orT=true/\(C.a==0)=false):=by
    cases g:dF T C orT
    ·exact .l rfl
    ·exact .r ⟨rfl,by simpa using fun e=>a ⟨g,e⟩⟩
   clear a n k8 X;rcases y4 with g|⟨g,t0⟩
   all_goals
    rw[g];go_wp2;go_ret;rw[y1.o,<-s.o,HF.o];exact⟨rfl,r,o,i,F⟩
theorem aPP:mC 40000 H O U gw cw T vI 331 #[Qd O] (qC T) T.length:=
 aYS _ ((aDJ T).cmp.log Oa sG 10) _ (aYR _ (aDJ T).cmp _ (fun st Y V w c b h a d=>aYT (qE T) (aDJ T) T.length aFW st Y V w c b h a d))
end
section
variable {H O U gw cw B:Nat} {T:List aU} {st:QS} {Y D vI v:Value} {V E:List V3} {w w':World} {l:List Int}
structure Lr(H O U gw:Nat)(Y vI:Value)(V:List V3)(B:Nat)(v:Value)(l:List Int)(w:World):Prop where
 o:w.ownsRow H 3 1 v l.length (fQ l)
 u:∀ k,v.ownBlock=some k->Off O U gw Y vI V k/\B<=k
theorem Lr.px(h:Lr H O U gw Y vI V B v l w)(b:Px O U Y D V E w w'):Lr H O U gw D vI E B v l w':=
 ⟨aR h.o (fun k a=>b.keep k (fC h.o a) (h.u k a).1.p (h.u k a).1.g (h.u k a).1.l),fun k a=>⟨(h.u k a).1.px b (fC h.o a),(h.u k a).2⟩⟩
theorem Lr.old(h:Lr H O U gw Y vI V B v l w)(b:∀ k,k < w.1.size->w'.1[k]?=w.1[k]?):Lr H O U gw Y vI V B v l w':=
 ⟨aR h.o (fun k a=>b k (fC h.o a)),h.u⟩
theorem Lr.push{w0:World}(h:Lr H O U gw Y vI V w0.1.size v l w)(f:PW H O U gw cw T st Y vI V w){j:Value}{c:List V3}(i:Px O U j Y c V w0 w){x:Int}{w1 w2:World}{g J:Nat}(d:w1.os=w.os/\w1.tape=w.tape/\w1.output=w.output/\w.1.size<=w1.1.size)(n:∀ k,k < w.1.size->w1.1[k]?=w.1[k]?)(h0:w2.ownsRow H 3 1 (Qe g (l.length+1) J) (l.length+1) (fQ l++[Qc x]))(a:w1.grownBy w2 v.ownBlock)(m:v.ownBlock=some g\/g=w1.1.size):
 Lr H O U gw Y vI V w0.1.size (Qe g (l.length+1) J) (l++[x]) w2/\PW H O U gw cw T st Y vI V w2/\Px O U j Y c V w0 w2:=by
 have cP:=i.size;have old:∀ k,k < w.1.size->v.ownBlock≠some k->w2.1[k]?=w.1[k]?:=fun k b o=>(a.block k Oa Qg).t Qh;refine⟨⟨?_,fun k b=>?_⟩,?_,?_⟩
 ·simpa[fQ]using h0
 ·have e:g=k:=by grind[Value.ownBlock]
  subst e;rcases m with e|e
  ·exact h.u g e
  ·exact⟨f.fresh Oa,Oa⟩
 ·exact f.offs (P:=fun k=>v.ownBlock=some k) (fun k b=>(h.u k b).1) Qi
 ·refine i.news ⟨a.os.t d.1,a.tape.t d.2.1,a.output.t Qh,?_⟩ (fun k b=>old k Oa (fun e=>by have:=(h.u k e).2;omega));have:=a.size;omega
theorem nZ(T:List aU)(st:QS):bZ T st<=T.length:=by
 grind[bZ]
theorem aOW(T:List aU)(s:ByteArray)(st:QS):bZ T (aO T s st)<=bZ T st - 1:=by
 grind[aO,dF,cO,wrap64,dW,bZ,Gr.opn,aKX]
def fJ(T:List aU)(st:QS)(c s:Nat):Prop:=st.L.length+8*(T.length - st.i)+s<=100000+c
theorem fJ.gr{a b:QS}{c s n:Nat}(h:fJ T a c s)(d:Gr a b n)(e:b.i<=T.length)(f:n<=s):fJ T b c (s - n):=by
 unfold fJ at*;have:=d.room;omega
theorem fJ.room{c s:Nat}(h:fJ T st c s):gH T st c:=by grind[fJ,gH]
theorem gH.b{c:Nat}(h:gH T st c)(a:(aE T st.i).d≠0)(b:(aG T st).i<=T.length):fJ T (aG T st) c 8:=by
 grind[gH,fJ,aV,jX]
theorem aNL{w0:World}(b:Lr H O U gw Y vI V w0.1.size v l w)(h:PW H O U gw cw T st Y vI V w){i:Value}{g:List V3}(p:Px O U i Y g V w0 w)(o:st.L.length<=200000)(f:Int):
 Calls prog 106 #[Qd O,.agg #[Qc f,Qc 0,.string ⟨#[]⟩,Qc 0,Qc 0,v,.slice none 0 0,.slice none 0 0,Qc 0,Qc 0,Qc 0]] w fun e w'=>e= .returned (Qc st.L.length)/\Aft H O U gw cw T vI i g w0 (cQ {d:=f,c:=l} st) w':=by
 have r:∀ k,iX (v,.slice none 0 0,.slice none 0 0) k->v.ownBlock=some k:=by
  rintro k (a|a|a)
  ·exact a
  ·cases a
  trivial
 refine(tZ {d:=f,c:=l} (v,.slice none 0 0,.slice none 0 0) h ⟨b.o,⟨rfl,Od⟩,⟨rfl,Od⟩⟩ (fun k a q=>(b.u k Qg).1.i a) o).mono ?_;rintro e w' ⟨j,D,m,n⟩;exact⟨j,D,_,m,(p.t n).more (fun k a=>(b.u k Qg).2)⟩
def aUB(K H O U gw cw:Nat)(T:List aU)(vI:Value)(S:QS->QS × Int)(N:Nat):Prop:=
 ∀ (st:QS) (Y:Value) (V:List V3) (w:World) (c:Nat),c<=K->st.a=0->PW H O U gw cw T st Y vI V w->bZ T st+1<=N->gH T st c->Calls prog 231 #[Qd O] w fun e w'=>e= .returned (Qc (S st).2)/\Aft H O U gw cw T vI Y V w (S st).1 w'
theorem aNJ(K:Nat)(S:QS->QS × Int)(gS:∀ st,Gr st (S st).1 0/\((S st).1.a≠0\/st.i+1<=(S st).1.i))(N:Nat)(hS:aUB K H O U gw cw T vI S N)(hK:K<=40000):
 mC K H O U gw cw T vI 171 #[Qd O] (wL T S) N:=by
 intro st Y V w c y3 h hN hr;have HS:Hid (aUB K H O U gw cw T vI S N):=hS;have M:Hid (wL T S st=(cQ {d:=19,c:=(fS T S T.length [] (aO T lbT st)).2} (cN T rbT (fS T S T.length [] (aO T lbT st)).1),((fS T S T.length [] (aO T lbT st)).1.L.length:Int))):=rfl;have k6:=Qm (aOW T lbT st) (Nat.sub_le_sub_right hN 1);clear hS;go_enter func171,ntmps171
 go_wp2_with fail
 refine(yU lbT h).mono ?_;rintro e w6 ⟨rfl,Z,e6⟩;have x6:=Px.i0 e6 (Y:=Y) (V:=V) (U:=U);have l6:Lr H O U gw Y vI V w.1.size (.slice none 0 0) [] w6:=⟨⟨rfl,.l ⟨rfl,rfl⟩⟩,fun b2 hk=>by cases hk⟩;have k4:gH T (aO T lbT st) (c+0):=hr.gr (Gr.opn T lbT st) (Nat.le_of_lt Z.lt);clear h hN hr e6;generalize aO T lbT st=I at*;obtain⟨i0,y2,k9,k8,k7⟩:=info_parts info3;go_wp2_with fail
 go_loopg [3] T.length (fun m v3 wr=>∃ (C:QS) (l:List Int) (y:Value) (u:List V3),PW H O U gw cw T C y vI u wr/\Px O U Y y V u w wr/\Lr H O U gw y vI u w.1.size v3 l wr/\l.length+m<=T.length/\bZ T C<=m/\bZ T C<=N - 1/\gH T C c/\fS T S m l C=fS T S T.length [] I)
 case atStart=>
  exact⟨I,[],Y,V,Z,x6,l6,Od,nZ T I,k6,k4,rfl⟩
 case round=>
  obtain⟨C,l,y,u,b,z,o,a7,k,P,g,h5⟩:=hrel;have s:Hid (fS T S gk l C=fS T S T.length [] I):=h5;obtain⟨_,_,_,p3,_,_,_⟩:=b.cells;clear h5 Z x6 l6 k6 k4;obtain⟨ao,cp,rfl,_⟩:=bP o.o
  by_cases a:C.a=0
  ·have t0:(C.a==0)=true:=by simp[a]
   obtain⟨m,rfl⟩:∃ m,gk=m+1:=⟨gk - 1,by
    unfold bZ at k;rw[if_pos a]at k;have:=b.lt;omega⟩
   go_wp2_with fail
   refine(pG rbT b).mono ?_;rintro e w7 ⟨rfl,p,rfl⟩;cases hb:dF T C rbT
   ·have L:=gS C
    have y6:Hid (fS T S m (l++[(S C).2]) (S C).1=fS T S T.length [] I):=by
     rw[Hid,<-s.o,fS,if_pos (c:=C.a=0/\dF T C rbT=false) ⟨a,hb⟩]
    have k5:bZ T C+1<=N:=by
     have:1<=bZ T C:=by
      unfold bZ;rw[if_pos a];have:=b.lt;omega
     omega
    have y1:bZ T (S C).1<=m:=by
     unfold bZ at k ⊢;rw[if_pos a]at k
     split
     ·rename_i h0;have:=L.2.resolve_left (fun h=>h h0);omega
     ·exact Qn _
    go_wp2_with fail
    refine(HS.o _ _ _ _ c y3 a (b.drewN p) k5 g).mono ?_;rintro e q ⟨rfl,a2,W,j,x8⟩;have Q:=(z.drewN p).t x8;have G:=(Lr.old o (w':=wr.drewN p) (fun _ _=>rfl)).px x8;have y0:gH T (S C).1 c:=(g.gr L.1 (Nat.le_of_lt j.lt):gH T (S C).1 (c+0));have y5:=Qm (L.1.need (T:=T)) P;have a6:=j.few;have a9:=j.t0;have k2:=G.o;have hB:Hid (Lr H O U gw a2 vI W w.1.size (.slice ao l.length cp) l q/\PW H O U gw cw T (S C).1 a2 vI W q/\Px O U Y a2 V W w q):=⟨G,j,Q⟩;clear x8 z b o g P k5 L s p3 t0 a k hb;generalize (S C).2=J at*;generalize (S C).1=s8 at*;clear G j Q;go_wp2_with (at_builtin;refine wpList_append_lies _ rfl _ _ 70 rfl H 3 i0 _ 1 8 underlying70 y2 k9 k8 k7 rfl Oa (.slice ao l.length cp) l.length (fQ l) rfl (k2.alloc _) ⟨q.1.size,0,none⟩ 1 1 [Qc J] rfl rfl (World.news_of_block (cs:=#[Qc J]) (t:=3) (fr:=(0,0)) (Qk q _)) (by simp[Value.oneCell']) Oa (by unfold maxLen;omega) Oa (by simp;omega) (q.1.size+1) Od ?_;intro gg a5 w9 h7 k0 y4 a8)
    go_roundg m
    case rel=>
     obtain⟨G,j,Q⟩:=hB.o;obtain⟨n,i,r⟩:=G.push j Q (x:=J) (w1:=q.alloc (Qf #[Qc J] 3)) ⟨rfl,rfl,rfl,Od⟩ (fun _ hk=>On hk) h7 k0 (y4.imp id (fun e=>by simpa using e));exact⟨s8,l++[J],_,_,i,r,n,by simp;omega,y1,y5,y0,y6.o⟩
    case measure=>omega
   ·have A:Hid (fS T S (m+1) l C=(C,l)):=by
     rw[Hid,fS,if_neg (c:=C.a=0/\dF T C rbT=false) (fun h=>by rw[hb]at h;cases h.2)]
    have hz:Hid (wL T S st=(cQ {d:=19,c:=l} (cN T rbT C),(C.L.length:Int))):=by
     rw[Hid,M.o,<-s.o,A.o]
    have k3:C.L.length<=200000:=by unfold gH at g;omega
    have h9:=b.drewN p;have y9:=z.drewN p;have l9:=Lr.old o (w':=wr.drewN p) (fun _ _=>rfl);clear b z o k P g s A M p3 t0 a hb;generalize wr.drewN p=W9 at*;go_wp2_with fail
    refine(yN rbT h9).mono ?_;rintro e a3 ⟨rfl,i,f⟩;have r:=y9.t (Px.i0 f);have n:=l9.px (Px.i0 f (Y:=y) (V:=u));have X:(cN T rbT C).L.length<=200000:=by rw[fI];exact k3
    clear h9 y9 l9 f;go_wp2_with fail
    refine(aNL n i r X 19).mono ?_;rintro e a4 ⟨rfl,F⟩;have R:Hid _:=F;clear F n i r;go_wp2;go_ret;rw[hz.o,fI];exact⟨rfl,R.o⟩
  ·have t0:(C.a==0)=false:=by simp[a]
   have A:Hid (fS T S gk l C=(C,l)):=by
    cases gk
    ·rfl
    ·exact if_neg (fun h=>a h.1)
   have hz:Hid (wL T S st=(cQ {d:=19,c:=l} (cN T rbT C),(C.L.length:Int))):=by
    rw[Hid,M.o,<-s.o,A.o]
   have k3:C.L.length<=200000:=by unfold gH at g;omega
   clear k P g s A M a;go_wp2_with fail
   refine(yN rbT b).mono ?_;rintro e a3 ⟨rfl,i,f⟩;have r:=z.t (Px.i0 f);have n:=o.px (Px.i0 f (Y:=y) (V:=u));have X:(cN T rbT C).L.length<=200000:=by rw[fI];exact k3
   clear b z o f p3 t0;go_wp2_with fail
   refine(aNL n i r X 19).mono ?_;rintro e a4 ⟨rfl,F⟩;have R:Hid _:=F;clear F n i r;go_wp2;go_ret;rw[hz.o,fI];exact⟨rfl,R.o⟩
end
section
variable {H O U gw cw X:Nat} {T:List aU} {st:QS} {Y vI:Value} {V:List V3} {w:World} {a:NQ} {v:V3}
theorem Bx.kid2{w0:World}(h:Bx H O U gw Y vI V w0.1.size X a v w)(o:PW H O U gw cw T st Y vI V w){f:Value}{d:List V3}(p:Px O U f Y d V w0 w)(i:v.2=(.slice none 0 0,.slice none 0 0))(e:a.g=[]/\a.e=[]){x y:Int}{w1 w2:World}{g J:Nat}(m:w1.os=w.os/\w1.tape=w.tape/\w1.output=w.output/\w.1.size<=w1.1.size)(j:∀ k,k < w.1.size->w1.1[k]?=w.1[k]?)(q:w2.ownsRow H 3 1 (Qe g (a.c.length+2) J) (a.c.length+2) (fQ a.c++[Qc x,Qc y]))(n:w1.grownBy w2 v.1.ownBlock)(h0:v.1.ownBlock=some g\/g=w1.1.size):
 Bx H O U gw Y vI V w0.1.size X {a with c:=a.c++[x,y]} (Qe g (a.c.length+2) J,.slice none 0 0,.slice none 0 0) (w2.setCell ⟨X,5,none⟩ (Qe g (a.c.length+2) J))/\PW H O U gw cw T st Y vI V (w2.setCell ⟨X,5,none⟩ (Qe g (a.c.length+2) J))/\Px O U f Y d V w0 (w2.setCell ⟨X,5,none⟩ (Qe g (a.c.length+2) J)):=by
 obtain⟨r,s,t⟩:=v;cases i;refine h.grow o p (fun k b=> .l b) rfl (fun k b=>?_) m j n h0 ⟨?_,?_,?_⟩
 ·rcases b with b|b|b
  ·grind[Value.ownBlock]
  ·cases b
  trivial
 ·grind[fQ]
 ·rw[e.1];exact⟨rfl,Od⟩
 ·rw[e.2];exact⟨rfl,Od⟩
theorem mC.le{K f:Nat}{args:Array Value}{P:QS->QS × Int}{N M:Nat}(h:mC K H O U gw cw T vI f args P N)(g:M<=N):mC K H O U gw cw T vI f args P M:=fun st Y V w c b e i d=>h st Y V w c b e Oa d
theorem aTY(K:Nat)(hK:K<=40000)(C B:QS->QS × Int)(gC:Grn 3 C)(gB:oG B)(a5:Nat)(hC:mC 40000 H O U gw cw T vI 331 #[Qd O] C T.length)(hB:mC K H O U gw cw T vI 171 #[Qd O] B a5)(p:Int)(s:ByteArray)(q:Bool)(hs:(s.toList==[105,102])=q)(c:Nat)(j8:c<=K)(h:PW H O U gw cw T st Y vI V w)(hN:bZ T st<=a5)(hr:fJ T st c 8):
 Calls prog 291 #[Qd O,NdA {d:=0,at_:=p} v0,.string s] w fun e w'=>e= .returned (Qc (fB T C B {d:=0,at_:=p} q st).2)/\Aft H O U gw cw T vI Y V w (fB T C B {d:=0,at_:=p} q st).1 w':=by
 have HB:Hid (mC K H O U gw cw T vI 171 #[Qd O] B a5):=hB;have HC:Hid (mC 40000 H O U gw cw T vI 331 #[Qd O] C T.length):=hC
 have P:Hid (fB T C B {d:=0,at_:=p} q st=(if q=true/\dF T (B (C st).1).1 aBL=true/\(B (C st).1).1.a=0 then
  (cQ {d:=15,at_:=p,c:=[(C st).2,(B (C st).1).2,(B (aG T (B (C st).1).1)).2]} (B (aG T (B (C st).1).1)).1,((B (aG T (B (C st).1).1)).1.L.length:Int))
 else(cQ {d:=if q=true then 15 else 16,at_:=p,c:=[(C st).2,(B (C st).1).2]} (B (C st).1).1,((B (C st).1).1.L.length:Int)))):=rfl
 have b1:=h.boxed (Px.refl O U Y V w) {d:=0,at_:=p} ⟨rfl,rfl,rfl,rfl,rfl,rfl,rfl,rfl⟩;have h1:=h.alloc (tS {d:=0,at_:=p});have x1:=(Px.refl O U Y V w).alloc (tS {d:=0,at_:=p});have j2:bZ T (C st).1<=a5:=Qm (gC st).need hN;have c7:=gC st;clear hB hC h;unfold NdA v0;go_enter func291,ntmps291
 go_wp2_with fail
 refine(HC.o st Y V _ c Oa h1 (nZ T st) hr.room).mono ?_;rintro e w2 ⟨rfl,d3,V2,h2,x2⟩;have b2:=b1.px x2;have y2:=x1.t x2;have y1:=hr.gr c7 (Nat.le_of_lt h2.lt) Oa;clear b1 h1 x1 x2 c7 hN hr;generalize (C st).2=g at*;generalize (C st).1=s2 at*;have a9:=gB s2;go_wp2_with fail
 refine(HB.o s2 _ _ _ c j8 h2 j2 y1.room).mono ?_;rintro e o ⟨rfl,N,V3,F,x3⟩;have k:=b2.px x3;have y3:=y2.t x3;have S:=y1.gr a9 (Nat.le_of_lt F.lt) Oa;have k8:=Qm (a9.need (T:=T)) j2;clear b2 h2 y2 x3 a9 j2 y1;generalize (B s2).2=f at*;generalize (B s2).1=b at*;obtain⟨i0,j7,j6,j5,j4⟩:=info_parts info3;have b8:=k.old (w':=o.alloc (Qf #[Qc g,Qc f] 3)) (fun _ I=>On I);obtain⟨⟨_,_,_,_,_,A⟩,_,_⟩:=k.cells;have A:o.cell? ⟨w.1.size,5,none⟩=some (.slice none 0 0):=A;obtain⟨⟨_,_,_,_,_,d5⟩,_,i⟩:=b8.cells;have f5:=i 5;have d2:=F.t0;have j1:=k.lt;have h8:=k.n.k;have L:some w.1.size≠v0.1.ownBlock:=by simp[v0,Value.ownBlock]
 have k7:Hid (Bx H O U gw N vI V3 w.1.size w.1.size {d:=0,at_:=p} v0 o/\PW H O U gw cw T b N vI V3 o/\Px O U Y N V V3 w o):=⟨k,F,y3⟩;clear i k F y3 b8;go_upto_region 4 with(at_builtin;refine wpList_append_lies _ rfl _ _ 70 rfl H 3 i0 _ 1 8 underlying70 j7 j6 j5 j4 rfl Oa (.slice none 0 0) 0 [] rfl (h8.alloc _) ⟨o.1.size,0,none⟩ 2 2 [Qc g,Qc f] rfl rfl (World.news_of_block (cs:=#[Qc g,Qc f]) (t:=3) (fr:=(0,0)) (Qk o _)) (by simp[Value.oneCell']) Oa (by unfold maxLen;omega) Oa (by simp;omega) (o.1.size+1) Od ?_;intro m J w4 k0 h0 k6 k2;have q5:=(h0.frozen_far ⟨w.1.size,5,none⟩ (by simp;omega) L).t f5;have q6:=(h0.cell_far ⟨w.1.size,5,none⟩ (by simp;omega) L).t d5)
 obtain⟨k,F,y3⟩:=k7.o;obtain⟨z,h5,y5⟩:=k.kid2 F y3 rfl ⟨rfl,rfl⟩ (x:=g) (y:=f) (w1:=o.alloc (Qf #[Qc g,Qc f] 3)) ⟨rfl,rfl,rfl,Od⟩ (fun _ I=>On I) k0 h0 (k6.imp id (fun e=>by simpa using e));clear k F y3 k7 h8 k0 h0 k6 k2 q5 q6 A d5 f5 j1 L;have z:Bx H O U gw N vI V3 w.1.size w.1.size {d:=0,at_:=p,c:=[g,f]} (Qe m 2 J,.slice none 0 0,.slice none 0 0) (w4.setCell ⟨w.1.size,5,none⟩ (Qe m 2 J)):=z;have h5:PW H O U gw cw T b N vI V3 (w4.setCell ⟨w.1.size,5,none⟩ (Qe m 2 J)):=h5;have y5:Px O U Y N V V3 w (w4.setCell ⟨w.1.size,5,none⟩ (Qe m 2 J)):=y5;generalize w4.setCell ⟨w.1.size,5,none⟩ (Qe m 2 J)=W5 at*;have r:=z.d 16;have h6:=h5.u0 z.o 0 (Qc 16);have y6:=y5.j0 z.m 0 (Qc 16);obtain⟨⟨g0,_⟩,_,i⟩:=z.cells;have f0:=i 0;clear i z h5 y5;cases q
 ·
   have hz:Hid (fB T C B {d:=0,at_:=p} false st=(cQ {d:=16,at_:=p,c:=[g,f]} b,(b.L.length:Int))):=by
    rw[Hid,P.o,if_neg Od];rfl
   have y8:b.L.length<=200000:=by unfold fJ at S;omega
   obtain⟨⟨z0,z1,z2,z3,z4,z5⟩,⟨z6,z7,z8,z9,a4⟩,zf⟩:=r.cells;clear P S k8;go_wp2_with fail
   refine(rX r h6 y6 y8).mono ?_;rintro e w7 ⟨rfl,u⟩;have HA:Hid _:=u;clear u r h6 y6 z0 z1 z2 z3 z4 z5 z6 z7 z8 z9 a4 zf;go_wp2;go_ret;rw[hz.o];exact⟨rfl,HA.o⟩
 ·
   have b7:=r.d 15;have h7:=h6.u0 r.o 0 (Qc 15);have y7:=y6.j0 r.m 0 (Qc 15);obtain⟨⟨g1,_⟩,_,i⟩:=r.cells;have f1:=i 0;clear i r h6 y6;go_wp2_with fail
   refine(pG aBL h7).mono ?_;rintro e w8 ⟨rfl,n8,rfl⟩;have b9:=b7.old (w':=((W5.setCell ⟨w.1.size,0,none⟩ (Qc 16)).setCell ⟨w.1.size,0,none⟩ (Qc 15)).drewN n8) (fun _ _=>rfl);have h9:=h7.drewN n8;have y9:=y7.drewN n8;clear b7 h7 y7 f0 f1 g0 g1;generalize ((W5.setCell ⟨w.1.size,0,none⟩ (Qc 16)).setCell ⟨w.1.size,0,none⟩ (Qc 15)).drewN n8=W9 at*;obtain⟨_,_,_,p3,_,_,_⟩:=h9.cells
   by_cases G:dF T b aBL=true/\b.a=0
   ·have R:=G.1;have t0:(b.a==0)=true:=by simp[G.2]
    have hz:Hid (fB T C B {d:=0,at_:=p} true st=(cQ {d:=15,at_:=p,c:=[g,f,(B (aG T b)).2]} (B (aG T b)).1,((B (aG T b)).1.L.length:Int))):=by
     rw[Hid,P.o,if_pos ⟨Od,G⟩]
    have j9:=Qm ((Gr.bz T b).need (T:=T)) k8;have c6:=gB (aG T b);clear P k8 G;rw[R];go_wp2_with fail
    refine(lG h9).mono ?_;rintro e d4 ⟨rfl,j3,a8⟩;unfold aU.g;have b6:=b9.px (Px.i0 a8 (Y:=N) (V:=V3));have c8:=y9.t (Px.i0 a8);have y0:=S.gr (Gr.bz T b) (Nat.le_of_lt j3.lt) Oa;clear b9 h9 y9 a8 p3 t0 S;generalize aG T b=s9 at*;go_wp2_with fail
    refine(HB.o s9 _ _ _ c j8 j3 j9 y0.room).mono ?_;rintro e n ⟨rfl,W,Q,M,b5⟩;have j:=b6.px b5;have a3:=c8.t b5;have y4:=y0.gr c6 (Nat.le_of_lt M.lt) Oa;clear b6 j3 c8 b5 c6 j9 y0;generalize (B s9).2=Z at*;generalize (B s9).1=b3 at*;have c5:=j.old (w':=n.alloc (Qf #[Qc Z] 3)) (fun _ I=>On I);obtain⟨⟨_,_,_,_,_,A⟩,_,_⟩:=j.cells;have A:n.cell? ⟨w.1.size,5,none⟩=some (Qe m 2 J):=A;obtain⟨⟨_,_,_,_,_,d5⟩,_,i⟩:=c5.cells;have f5:=i 5;have c9:=M.t0;have k5:=j.lt;have h8:=j.n.k;have L:some w.1.size≠(Qe m 2 J).ownBlock:=fun e=>j.ne (.l e.symm) rfl;have k7:Hid (Bx H O U gw W vI Q w.1.size w.1.size {d:=15,at_:=p,c:=[g,f]} (Qe m 2 J,.slice none 0 0,.slice none 0 0) n/\PW H O U gw cw T b3 W vI Q n/\Px O U Y W V Q w n):=⟨j,M,a3⟩;clear i j M a3 c5;go_upto_region 12 with(at_builtin;refine wpList_append_lies _ rfl _ _ 70 rfl H 3 i0 _ 1 8 underlying70 j7 j6 j5 j4 rfl Oa (Qe m 2 J) 2 (fQ [g,f]) rfl (h8.alloc _) ⟨n.1.size,0,none⟩ 1 1 [Qc Z] rfl rfl (World.news_of_block (cs:=#[Qc Z]) (t:=3) (fr:=(0,0)) (Qk n _)) (by simp[Value.oneCell']) Oa (by unfold maxLen;omega) Oa (by simp;omega) (n.1.size+1) Od ?_;intro gh a6 b4 h4 h0 k6 k2;have q5:=(h0.frozen_far ⟨w.1.size,5,none⟩ (by simp;omega) L).t f5;have q6:=(h0.cell_far ⟨w.1.size,5,none⟩ (by simp;omega) L).t d5)
    obtain⟨j,M,a3⟩:=k7.o;obtain⟨a2,k9,a7⟩:=j.kid M a3 rfl ⟨rfl,rfl⟩ (x:=Z) (w1:=n.alloc (Qf #[Qc Z] 3)) ⟨rfl,rfl,rfl,Od⟩ (fun _ I=>On I) h4 h0 (k6.imp id (fun e=>by simpa using e));have a2:Bx H O U gw W vI Q w.1.size w.1.size {d:=15,at_:=p,c:=[g,f,Z]} (Qe gh 3 a6,.slice none 0 0,.slice none 0 0) (b4.setCell ⟨w.1.size,5,none⟩ (Qe gh 3 a6)):=a2;have k9:PW H O U gw cw T b3 W vI Q (b4.setCell ⟨w.1.size,5,none⟩ (Qe gh 3 a6)):=k9;have a7:Px O U Y W V Q w (b4.setCell ⟨w.1.size,5,none⟩ (Qe gh 3 a6)):=a7;have j0:b3.L.length<=200000:=by unfold fJ at y4;omega
    clear j M a3 k7 h8 h4 h0 k6 k2 q5 q6 A d5 f5 k5 L;obtain⟨⟨z0,z1,z2,z3,z4,z5⟩,⟨z6,z7,z8,z9,a4⟩,zf⟩:=a2.cells;go_wp2_with fail
    refine(rX a2 k9 a7 j0).mono ?_;rintro e d6 ⟨rfl,u⟩;have HA:Hid _:=u;clear u a2 k9 a7 z0 z1 z2 z3 z4 z5 z6 z7 z8 z9 a4 zf;go_wp2;go_ret;rw[hz.o];exact⟨rfl,HA.o⟩
   ·have hz:Hid (fB T C B {d:=0,at_:=p} true st=(cQ {d:=15,at_:=p,c:=[g,f]} b,(b.L.length:Int))):=by
     rw[Hid,P.o,if_neg (fun h=>G h.2)];rfl
    have y8:b.L.length<=200000:=by unfold fJ at S;omega
    have g2:dF T b aBL=false\/(dF T b aBL=true/\(b.a==0)=false):=by
     cases R:dF T b aBL
     ·exact .l rfl
     ·exact .r ⟨rfl,by simpa using fun e=>G ⟨R,e⟩⟩
    obtain⟨⟨z0,z1,z2,z3,z4,z5⟩,⟨z6,z7,z8,z9,a4⟩,zf⟩:=b9.cells;clear P S k8 G;rcases g2 with R|⟨R,t0⟩
    all_goals
     rw[R];go_wp2_with fail
     refine(rX b9 h9 y9 y8).mono ?_;rintro e w7 ⟨rfl,u⟩;have HA:Hid _:=u;clear u b9 h9 y9 z0 z1 z2 z3 z4 z5 z6 z7 z8 z9 a4 zf;go_wp2;go_ret;rw[hz.o];exact⟨rfl,HA.o⟩
end
section
def cq(s:ByteArray)(q:Nat):Int × Int:=uY (s.extract q s.size)
theorem aAF(s:ByteArray)(q:Nat):(cq s q=(0,0)/\lJ s q (Utf8.decode s q).1=true/\(Utf8.decode s q).1=65533)\/(cq s q=(((Utf8.decode s q).1:Int),((Utf8.decode s q).2:Int))/\lJ s q (Utf8.decode s q).1=false):=by
 grind[cq,uY,Utf8.decode,lJ,aLT,aNF]
theorem aMQ(s:ByteArray)(p a:Nat):(s.extract p s.size).extract a (s.extract p s.size).size=s.extract (p+a) s.size:=by
 grind[ByteArray.size_extract,ByteArray.extract_extract]
theorem aJ1{s:ByteArray}{p A k:Nat}(h:k < A)(b:p+A<=s.size):(s.extract p (p+A)).get! k=s.get! (p+k)/\(s.extract p (p+A)).size=A:=by
 grind[ByteArray.size_extract,jE,ByteArray.getElem_extract]
theorem aJE{s:ByteArray}{p A a:Nat}(d:p+A<=s.size)(h:eQ (Utf8.decode s (p+a)).1=true\/eN (Utf8.decode s (p+a)).1=true)(b:a+(Utf8.decode s (p+a)).2<=A)(h0:a < A):Utf8.decode (s.extract p (p+A)) a=Utf8.decode s (p+a):=by
 have c:(Utf8.decode s (p+a)).1<=591:=by
  grind[eQ,eN]
 grind[ByteArray.size_extract,ByteArray.getElem_extract,aH5,decode_ascii,aDV]
theorem aWX(u:ByteArray):∀ (f a k:Nat),a<=(nmL u f a k).1/\k<=(nmL u f a k).2:=by
 intro f
 induction f with
 |zero=>intro a k;exact⟨Ql _,Ql _⟩
 |succ f ih=>
  grind[nmL,uY]
theorem aSQ{s:ByteArray}{c:dI}{p:Nat}(F:c.f=s)(C:c.mode=2)(y:c.a=0)(R:p<=s.size):∀ (f a k:Nat),0 < k->p+a<=s.size->s.size < p+a+f->
 Dn s c (p+a)=Dn s c (p+(nmL (s.extract p s.size) f a k).1)/\(p+(nmL (s.extract p s.size) f a k).1 < s.size->c.goes (p+(nmL (s.extract p s.size) f a k).1) (Utf8.decode s (p+(nmL (s.extract p s.size) f a k).1)).1=false)/\p+(nmL (s.extract p s.size) f a k).1<=s.size/\
 ∀ A,(nmL (s.extract p s.size) f a k).1<=A->p+A<=s.size->∀ b,A - a<=b->Lib.runeCountFrom (s.extract p (p+A)) b a=(nmL (s.extract p s.size) f a k).2 - k+Lib.runeCountFrom (s.extract p (p+A)) (b - ((nmL (s.extract p s.size) f a k).2 - k)) (nmL (s.extract p s.size) f a k).1:=by
 have cP:(s.extract p s.size).size=s.size - p:=by rw[ByteArray.size_extract];omega
 have r:∀ q,c.goes q (Utf8.decode s q).1=(eQ (Utf8.decode s q).1||eN (Utf8.decode s q).1):=fun q=>by
  unfold dI.goes;rw[Oh,if_pos C]
 intro f
 induction f with
 |zero=>intro a k _ d i;omega
 |succ f ih=>
  intro a k P t M;unfold nmL;rw[cP]
  by_cases n:a < s.size - p
  ·rw[if_pos n]
   have k0:uY ((s.extract p s.size).extract a (s.size - p))=cq s (p+a):=by
    unfold cq;rw[<-aMQ,cP]
   rw[k0]
   by_cases h0:(cq s (p+a)).2=0\/(eQ (cq s (p+a)).1=false/\(eN (cq s (p+a)).1=false\/k=0))
   ·rw[if_pos h0];refine⟨rfl,fun _=>?_,t,fun A d i b j=>Od⟩;rw[r];rcases aAF s (p+a)with⟨d,i,j⟩|⟨d,i⟩
    ·rw[j];decide
    ·rw[d]at h0;have G:=Lib.decode_width_pos s (p+a) Oa;rcases h0 with h|⟨g,m⟩
     ·exfalso;simp only at h;omega
     ·simp only at g m;rw[g,m.resolve_right Oa];rfl
   ·rw[if_neg h0];rcases aAF s (p+a)with⟨d,i,j⟩|⟨d,i⟩
    ·exact absurd (.l (by rw[d])) h0
    ·rw[d]at h0 ⊢;have G:=Lib.decode_width_pos s (p+a) Oa;have Q:=lW s (p+a) Oa
     have o:eQ (Utf8.decode s (p+a)).1=true\/eN (Utf8.decode s (p+a)).1=true:=by
      by_cases g:eQ (Utf8.decode s (p+a)).1=true
      ·exact .l g
      ·by_cases m:eN (Utf8.decode s (p+a)).1=true
       ·exact .r m
       ·exact absurd (.r ⟨by simpa using g,.l (by simpa using m)⟩) h0
     have z:c.goes (p+a) (Utf8.decode s (p+a)).1=true:=by
      rw[r];rcases o with h|h<;>rw[h]<;>simp
     rw[aJD F Oa y z];simp only[Int.toNat_natCast];obtain⟨u,I,J,K⟩:=ih (a+(Utf8.decode s (p+a)).2) (k+1) Oa Oa Oa;rw[<-Nat.add_assoc]at u;have N:=aWX (s.extract p s.size) f (a+(Utf8.decode s (p+a)).2) (k+1);refine⟨u,I,J,fun A j g b m=>?_⟩;obtain⟨b,rfl⟩:∃ L,b=L+1:=⟨b - 1,Oa⟩;have x:(s.extract p (p+A)).size=A:=by rw[ByteArray.size_extract];omega
     rw[Lib.runeCountFrom,x,if_pos Oa,aJE g o Oa Oa];rw[K A j g b Oa];have e:b - ((nmL (s.extract p s.size) f (a+(Utf8.decode s (p+a)).2) (k+1)).2 - (k+1))=b+1 - ((nmL (s.extract p s.size) f (a+(Utf8.decode s (p+a)).2) (k+1)).2 - k):=Oa
     rw[e];omega
  ·rw[if_neg n];exact⟨rfl,fun h=>Oa,t,fun A d i b j=>Od⟩
theorem aCC{s:ByteArray}{q:Nat}(h:q < s.size)(b:48<=(s.get! q).toNat/\(s.get! q).toNat<=57):Utf8.decode s q=((s.get! q).toNat,1):=by
 grind[jE,decode_ascii]
theorem aAE{s:ByteArray}{q:Nat}(h:q < s.size):eN (Utf8.decode s q).1=true↔(48<=(s.get! q).toNat/\(s.get! q).toNat<=57):=by
 grind[eN,aDT,jE,aCC]
def lY(s:ByteArray)(a b:Nat):List UInt8:=(s.extract a b).data.toList
theorem vB{s:ByteArray}{a b:Nat}(h:b < s.size)(c:a<=b):lY s a (b+1)=lY s a b++[s.get! b]:=by
 grind[lY,uX,jE]
theorem aD5{s:ByteArray}{a b:Nat}(h:b < s.size)(c:a<=b):kX (lY s a (b+1))=min (kX (lY s a b)*10+(((s.get! b).toNat:Int) - 48)) 1000000000:=by
 rw[vB h c,aD7]
theorem aD6{c:dI}{p q:Nat}(b:c.mode=3)(h0:c.start=p):c.d0 q=if 999999999 < kX (lY c.f p q)then c.fail 3 p else c.push 2 (kX (lY c.f p q)) (ByteArray.mk #[]):=by
 unfold dI.d0;rw[Oh,if_pos b];unfold dI.number;rw[h0,Int.toNat_natCast];rfl
theorem aA5{c:dI}{q:Nat}{r:Int}(b:c.mode=3):c.goes q r=eN r:=by
 grind[dI.goes]
theorem aAA{c:dI}{e p:Int}(b:c.a=0):(c.fail e p).a=e/\(c.fail e p).e=p:=by
 grind[dI.fail]
theorem aVH{s:ByteArray}{c:dI}{p:Nat}(k:c.f=s)(f:c.mode=3)(d:c.a=0)(j:c.start=p):∀ (n q:Nat),s.size - q < n->p<=q->q<=s.size->999999999 < kX (lY s p q)->(Dn s c q).a=3/\(Dn s c q).e=p:=by
 intro n
 induction n with
 |zero=>omega
 |succ n ih=>
  intro q g h i b
  by_cases e:q < s.size/\eN (Utf8.decode s q).1=true
  ·grind[aAE,aJD,aA5,aCC,aD5]
  grind[aD6,aAA,aLM,aA5]
theorem aVG{s:ByteArray}{c:dI}{p:Nat}(m:c.f=s)(g:c.mode=3)(j:c.a=0)(q:c.start=p):∀ (f k:Nat) (v:Int),p+k<=s.size->s.size < p+k+f->v=kX (lY s p (p+k))->0<=v->v<=999999999->
 ((dgL (s.extract p s.size) f k v).2.2=false->Dn s c (p+k)=Dn s c (p+(dgL (s.extract p s.size) f k v).1)/\(p+(dgL (s.extract p s.size) f k v).1 < s.size->c.goes (p+(dgL (s.extract p s.size) f k v).1) (Utf8.decode s (p+(dgL (s.extract p s.size) f k v).1)).1=false)/\p+(dgL (s.extract p s.size) f k v).1<=s.size/\(dgL (s.extract p s.size) f k v).2.1=kX (lY s p (p+(dgL (s.extract p s.size) f k v).1))/\(dgL (s.extract p s.size) f k v).2.1<=999999999/\k<=(dgL (s.extract p s.size) f k v).1)/\
 ((dgL (s.extract p s.size) f k v).2.2=true->(Dn s c (p+k)).a=3/\(Dn s c (p+k)).e=p):=by
 have cP:(s.extract p s.size).size=s.size - p:=by rw[ByteArray.size_extract];omega
 intro f
 induction f with
 |zero=>intro k v I i;omega
 |succ f ih=>
  intro k v t J n v0 G;unfold dgL;rw[cP,sV]
  by_cases d:k < s.size - p/\48<=(s.get! (p+k)).toNat/\(s.get! (p+k)).toNat<=57
  ·rw[if_pos d];have h0:p+k < s.size:=Oa
   have r:Dn s c (p+k)=Dn s c (p+(k+1)):=by
    rw[aJD m h0 j (by rw[aA5 g];exact(aAE h0).2 d.2),aCC h0 d.2];rfl
   have e:=aD5 (s:=s) (a:=p) (b:=p+k) h0 Oa;rw[<-n]at e;rw[r]
   by_cases o:999999999 < 10*v+(((s.get! (p+k)).toNat:Int) - 48)
   ·rw[if_pos o];refine⟨fun h=>by simp at h,fun _=>aVH m g j q _ _ (Nat.lt_succ_self _) Oa Oa ?_⟩;rw[<-Nat.add_assoc,e];omega
   ·rw[if_neg o];obtain⟨u,x⟩:=ih (k+1) (10*v+(((s.get! (p+k)).toNat:Int) - 48)) Oa Oa (by rw[<-Nat.add_assoc,e];omega) Oa Oa;refine⟨fun h=>?_,x⟩;obtain⟨y,z,A,C,F,K⟩:=u h;exact⟨y,z,A,C,F,Oa⟩
  ·rw[if_neg d];refine⟨fun _=>⟨rfl,fun h=>?_,t,n,G,Oa⟩,Od⟩;rw[aA5 g];have:=mt (aAE h).1 (fun i=>d ⟨Oa,i⟩);simp[*]
theorem aF4(l:List UInt8):∀ (n k:Nat),nW l k n≠0->spL (nW l k n)=l/\k<=nW l k n/\nW l k n < k+n
 |0,k,h=>Qj
 |n+1,k,h=>by
  unfold nW at h ⊢
  by_cases e:spL k=l
  ·simp[*]
  ·rw[if_neg e]at h ⊢;have:=aF4 l n (k+1) h
   grind
theorem uJ{l:List UInt8}(h:xW l=true):spL (zU l)=l/\3<=zU l/\zU l<=33:=by
 unfold xW at h;have:=aF4 l 31 3 (of_decide_eq_true h);exact⟨this.1,this.2.1,by have:=Oa;show nW l 3 31<=33;omega⟩
theorem aF3(l:List UInt8):∀ (n k j:Nat),0 < k->k<=j->j < k+n->spL j=l->nW l k n≠0
 |0,k,j,_,h1,h2,_=>Oa
 |n+1,k,j,h0,h1,h2,h3=>by
  unfold nW
  by_cases e:spL k=l
  ·grind
  ·rw[if_neg e];exact aF3 l n (k+1) j Oa Qg Oa h3
theorem aXS{k:Nat}(h:3<=k/\k<=33):xW (spL k)=true:=decide_eq_true (aF3 _ 31 3 k Oa h.1 Oa rfl)
theorem aF2{k:Nat}{X:ByteArray}:sp k=X↔spL k=X.data.toList:=by
 constructor
 ·intro h;rw[<-h];rfl
 ·intro h;exact ByteArray.ext (Array.ext' h)
theorem aVN(X:ByteArray):inQ X aBE=if sp 21=X then true else if sp 22=X then true else if sp 24=X then true else if sp 26=X then true else if sp 32=X then true else decide (sp 33=X):=by rfl
theorem aSD(X:ByteArray):inQ X aEF=if sp 3=X then true else if sp 4=X then true else if sp 5=X then true else if sp 6=X then true else if sp 7=X then true else if sp 8=X then true else if sp 9=X then true else if sp 10=X then true else decide (sp 11=X):=by rfl
theorem aIL(b:UInt8):(decide (b.toNat≠32)&&inQ ⟨#[b]⟩ aAX)=xW [b]/\(wZ [b]=true->b.toNat < 128)/\(xW [b]=true->wZ [b]=true):=by
 have h:(List.range 256).all (fun n=>((decide (n≠32)&&inQ ⟨#[UInt8.ofNat n]⟩ aAX)==xW [UInt8.ofNat n])&&(!wZ [UInt8.ofNat n]||decide (n < 128))&&(!xW [UInt8.ofNat n]||wZ [UInt8.ofNat n]))=true:=by decide+kernel
 have c:=List.all_eq_true.1 h b.toNat (List.mem_range.2 b.toNat_lt);rw[UInt8.ofNat_toNat]at c
 grind
theorem aNH{l:List UInt8}:∀ (n k:Nat),rT l k n=true->∃ j,k<=j/\j < k+n/\Lib.hasPrefix (spL j) l=true
 |0,_,h=>by cases h
 |n+1,k,h=>by
  unfold rT at h;rcases Bool.or_eq_true_iff.1 h with h|h
  ·grind
  ·obtain⟨j,b,c,d⟩:=aNH n (k+1) h
   grind
theorem aDZ{a b:UInt8}{l:List UInt8}(h:wZ (a::b::l)=true):l=[]/\(b.toNat=61\/b.toNat=38\/b.toNat=124):=by
 obtain⟨j,e,f,d⟩:=aNH 22 12 h;have h0:(List.range 34).all (fun k=>decide (k < 12)||(match spL k with|_::x::r=>(decide (x.toNat=61)||decide (x.toNat=38)||decide (x.toNat=124))&&r.isEmpty|_=>true))=true:=by rfl
 have c:=List.all_eq_true.1 h0 j (List.mem_range.2 Oa);simp only[Bool.or_eq_true,decide_eq_true_eq]at c;replace c:=c.resolve_left Oa;unfold Lib.hasPrefix at d;cases hs:spL j with
 |nil=>grind
 |cons x r=>
  cases r with
  |nil=>grind
  |cons y r=>
   grind
theorem aES(a b:UInt8):(decide (a.toNat≠32)&&inQ ⟨#[a,b]⟩ aBE)=wZ [a,b]/\(wZ [a,b]=true->xW [a,b]=true):=by
 by_cases g:b.toNat=61\/b.toNat=38\/b.toNat=124
 ·have h:(List.range 256).all (fun n=>[61,38,124].all fun m=>((decide (n≠32)&&inQ ⟨#[UInt8.ofNat n,UInt8.ofNat m]⟩ aBE)==wZ [UInt8.ofNat n,UInt8.ofNat m])&&(!wZ [UInt8.ofNat n,UInt8.ofNat m]||xW [UInt8.ofNat n,UInt8.ofNat m]))=true:=by decide+kernel
  have c:=List.all_eq_true.1 (List.all_eq_true.1 h a.toNat (List.mem_range.2 a.toNat_lt)) b.toNat Qh;rw[UInt8.ofNat_toNat,UInt8.ofNat_toNat]at c
  grind
 ·have e1:wZ [a,b]=false:=by
   grind[aDZ]
  have f:inQ ⟨#[a,b]⟩ aBE=false:=by
   rw[Bool.eq_false_iff];intro h;rw[aVN]at h
   have key:∀ (k:Nat) (x y:UInt8),spL k=[x,y]->(y.toNat=61\/y.toNat=38\/y.toNat=124)->¬sp k=⟨#[a,b]⟩:=fun k x y i j d=>by
    have e:=aF2.1 d
    grind
   rw[if_neg (key 21 61 61 rfl Ob),if_neg (key 22 33 61 rfl Ob),if_neg (key 24 60 61 rfl Ob),if_neg (key 26 62 61 rfl Ob),if_neg (key 32 38 38 rfl Ob)]at h;exact key 33 124 124 rfl Ob Qg
  simp[*]
theorem aY4{X:ByteArray}{b:UInt8}{l:List UInt8}(e:X.data.toList=b::l)(g:(97<=b.toNat/\b.toNat<=122)\/(65<=b.toNat/\b.toNat<=90)\/b.toNat=95\/128<=b.toNat):inQ X aEF=xW X.data.toList/\(xW X.data.toList=true->zU X.data.toList<=11):=by
 have f:(List.range 34).all (fun k=>decide (k < 12)||(match spL k with|x::_=>decide (x.toNat < 65)||decide (x.toNat=91)||decide (x.toNat=93)||decide (123<=x.toNat/\x.toNat<=125)|_=>true))=true:=by rfl
 have h0:xW X.data.toList=true->zU X.data.toList<=11:=(by grind[zU,uJ,List.all_eq_true]);refine⟨?_,h0⟩;rw[Bool.eq_iff_iff];constructor
 ·intro h;rw[aSD]at h
  grind[sp,xW,aF2,aXS]
 ·intro h;have d:=h0 h;obtain⟨c,i,j⟩:=uJ h;generalize zU X.data.toList=k at*;have c:=aF2.2 c;rw[aSD];rcases(show k=3\/k=4\/k=5\/k=6\/k=7\/k=8\/k=9\/k=10\/k=11 by omega)with rfl|rfl|rfl|rfl|rfl|rfl|rfl|rfl|rfl<;>simp[c]
def QT(t q:aU):Prop:=q.e=t.e/\((t.d=0/\q.d=0/\q.f=⟨#[]⟩)\/(t.d=1/\q.d=1/\q.f=t.f)\/(t.d=2/\q.d=2/\q.a=t.a)\/(3<=t.d/\t.d<=33/\q.d=3/\q.f=sp t.d.toNat))
def QTL:List aU->List aU->Prop
 |[],[]=>True
 |a::l,b::m=>QT a b/\QTL l m
 |_,_=>False
theorem QTL.snoc:∀ {l m:List aU} {a b:aU},QTL l m->QT a b->QTL (l++[a]) (m++[b])
 |[],[],_,_,_,h=>Qj
 |_::_,_::_,_,_,h,h2=>⟨h.1,QTL.snoc h.2 h2⟩
theorem aCB{n:Nat}(h:n < 128):(Utf8.encode (n:Int)).data.toList=[UInt8.ofNat n]:=by
 have b:(List.range 128).all (fun n=>decide ((Utf8.encode (n:Int)).data.toList=[UInt8.ofNat n]))=true:=by rfl
 grind
theorem aDS{r:Int}(h:128<=r):∃ x y l,(Utf8.encode r).data.toList=x::y::l/\128<=x.toNat:=by
 have i:∀ n,192<=n->n < 256->128<=(UInt8.ofNat n).toNat:=fun n e b=>by simp;omega
 have b:∀ v:Int,Utf8.valid v=true->v<=1114111:=(by grind[Utf8.valid]);unfold Utf8.encode;dsimp only
 obtain⟨c,d,f,g⟩:∃ c:Nat,(if Utf8.valid r=true then r.toNat else Utf8.runeError)=c/\128<=c/\c<=1114111:=by
  split
  ·grind
  ·exact⟨_,rfl,Ob,Ob⟩
 rw[d,Oh]
 split
 ·grind
 split
 ·grind
 grind
theorem aNI{x:UInt8}{l:List UInt8}(h:128<=x.toNat):wZ (x::l)=false:=by
 rw[Bool.eq_false_iff];intro c;obtain⟨j,d,e,b⟩:=aNH 22 12 c;have h0:(List.range 34).all (fun k=>match spL k with|y::_=>decide (y.toNat < 128)|_=>true)=true:=by rfl
 have f:=List.all_eq_true.1 h0 j (List.mem_range.2 Oa);unfold Lib.hasPrefix at b;cases hs:spL j with
 |nil=>grind
 |cons y r=>
  grind
structure Wb(s:ByteArray)(p:Nat)(com:Bool)(l:List aU)(c:dI):Prop where
 f:c.f=s
 a:c.a=0
 com_:com=true->c.mode=1
 fin:(c.d0 p).a=0
 words:QTL (c.d0 p).words l
 b:com=false->p < s.size->c.goes p (Utf8.decode s p).1=false
theorem aNY{s:ByteArray}{a b:Nat}:(s.data.toList.take b).drop a=lY s a b:=by
 unfold lY;rw[Lib.extract_data,List.drop_take]
theorem rS{s:ByteArray}{p:Nat}(h:p < s.size):lY s p (p+1)=[s.get! p]:=by
 grind[lY,vB,Lib.extract_data]
theorem aX6{X:ByteArray}{l:List UInt8}(h:X.data.toList=l):X=⟨l.toArray⟩:=by rw[<-h]
theorem aI9{s:ByteArray}{p:Nat}(b:p < s.size):(s.extract p s.size).extract 0 1=⟨#[s.get! p]⟩/\(p+1 < s.size->(s.extract p s.size).extract 0 2=⟨#[s.get! p,s.get! (p+1)]⟩)/\lgB (s.extract p s.size)=(decide (p+1 < s.size)&&wZ [s.get! p,s.get! (p+1)])/\shB (s.extract p s.size)=xW [s.get! p]:=by
 have cP:(s.extract p s.size).size=s.size - p:=Od
 obtain⟨d,e,f⟩:=aIL (s.get! p);have u0:(s.extract p s.size).get! 0=s.get! p:=by rw[sV,Nat.add_zero]
 have u1:(s.extract p s.size).get! 1=s.get! (p+1):=sV _ _ _
 have e1:(s.extract p s.size).extract 0 1=⟨#[s.get! p]⟩:=by
  refine aX6 (l:=[s.get! p]) ?_;rw[ByteArray.extract_extract,show min (p+1) s.size=p+1 by omega,Nat.add_zero];exact rS b
 have c:p+1 < s.size->(s.extract p s.size).extract 0 2=⟨#[s.get! p,s.get! (p+1)]⟩:=fun h=>by
  refine aX6 (l:=[s.get! p,s.get! (p+1)]) ?_;rw[ByteArray.extract_extract,show min (p+2) s.size=p+2 by omega,Nat.add_zero];show lY s p (p+1+1)=_
  grind[vB,rS]
 grind[lgB,wZ,shB,xW,aES,aDZ]
theorem aRG{s:ByteArray}{c:dI}{p:Nat}(f:p < s.size)(o:c.f=s)(A:c.a=0)(F:c.mode=4)(u:c.start=p):
 (vY (s.extract p s.size)=⟨#[]⟩->(Dn s c (p+1)).a=1/\(Dn s c (p+1)).e=p)/\
 (vY (s.extract p s.size)≠⟨#[]⟩->Dn s c (p+1)=Dn s c (p+(vY (s.extract p s.size)).size)/\p+(vY (s.extract p s.size)).size<=s.size/\(p+(vY (s.extract p s.size)).size < s.size->c.goes (p+(vY (s.extract p s.size)).size) (Utf8.decode s (p+(vY (s.extract p s.size)).size)).1=false)/\∃ k:Nat,3<=k/\k<=33/\vY (s.extract p s.size)=sp k/\c.d0 (p+(vY (s.extract p s.size)).size)=c.push k 0 (ByteArray.mk #[])):=by
 have cP:(s.extract p s.size).size=s.size - p:=by rw[ByteArray.size_extract];omega
 have x:∀ q r,c.goes q r=wZ (lY s p q++(Utf8.encode r).data.toList):=fun q r=>by
  unfold dI.goes;rw[Oh,Oh,Oh,if_pos F,o,u,Int.toNat_natCast,aNY]
 have h0:∀ q,c.d0 q=if xW (lY s p q)=true then c.push (zU (lY s p q)) 0 (ByteArray.mk #[])else c.fail 1 p:=fun q=>by
  unfold dI.d0;rw[Oh,Oh,if_pos F,o,u,Int.toNat_natCast];unfold dI.sign;rw[u];rfl
 obtain⟨e1,J,k0,z⟩:=aI9 f
 have N:(p+1 < s.size->wZ [s.get! p,s.get! (p+1)]=false)->(p+1 < s.size->c.goes (p+1) (Utf8.decode s (p+1)).1=false):=fun P h=>by
  rw[x,rS f]
  by_cases d:(s.get! (p+1)).toNat < 128
  ·have m:Utf8.decode s (p+1)=((s.get! (p+1)).toNat,1):=by
    rw[jE h]at d ⊢;exact decode_ascii s (p+1) h d
   rw[m,aCB d,UInt8.ofNat_toNat];exact P h
  ·have m:128<=(Utf8.decode s (p+1)).1:=by
    rw[jE h]at d;exact(decode_high s (p+1) h Oa).1
   obtain⟨R,I,l,i,b⟩:=aDS (r:=((Utf8.decode s (p+1)).1:Int)) Oa;rw[i,Bool.eq_false_iff];intro y;have:=(aDZ (l:=I::l) y).1;cases this
 by_cases b:lgB (s.extract p s.size)=true
 ·have j:vY (s.extract p s.size)=(s.extract p s.size).extract 0 2:=by unfold vY;rw[if_pos b]
  rw[k0]at b;simp only[Bool.and_eq_true,decide_eq_true_eq]at b;rw[J b.1]at j;rw[j];have t:=(aES (s.get! p) (s.get! (p+1))).2 b.2;have d:(s.get! (p+1)).toNat < 128:=by have:=(aDZ b.2).2;omega
  have m:Utf8.decode s (p+1)=((s.get! (p+1)).toNat,1):=by
   rw[jE b.1]at d ⊢;exact decode_ascii s (p+1) b.1 d
  have G:lY s p (p+2)=[s.get! p,s.get! (p+1)]:=by
   show lY s p (p+1+1)=_;rw[vB b.1 Oa,rS f];rfl
  refine⟨fun h=>absurd (congrArg ByteArray.size h) (show ¬(2:Nat)=0 by decide),fun _=>?_⟩;show Dn s c (p+1)=Dn s c (p+2)/\p+2<=s.size/\(p+2 < s.size->c.goes (p+2) (Utf8.decode s (p+2)).1=false)/\∃ k:Nat,3<=k/\k<=33/\_=sp k/\c.d0 (p+2)=_;refine⟨?_,b.1,fun h=>?_,zU [s.get! p,s.get! (p+1)],(uJ t).2.1,(uJ t).2.2,?_,?_⟩
  ·rw[aJD o b.1 A (by rw[x,m,rS f,aCB d,UInt8.ofNat_toNat];exact b.2),m];rfl
  ·rw[x,G,Bool.eq_false_iff];intro y;have n:(Utf8.encode ((Utf8.decode s (p+2)).1:Int)).data.toList=[]:=(aDZ y).1
   by_cases Q:(Utf8.decode s (p+2)).1 < 128
   ·rw[aCB Q]at n;cases n
   ·obtain⟨R,I,l,i,_⟩:=aDS (r:=((Utf8.decode s (p+2)).1:Int)) Oa;rw[i]at n;cases n
  ·exact(aF2.2 (uJ t).1).symm
  ·rw[h0,G,if_pos t]
 ·have i:=N (fun h=>by
   rw[k0,decide_eq_true h,Bool.true_and]at b;simpa using b)
  by_cases g:xW [s.get! p]=true
  ·have j:vY (s.extract p s.size)=⟨#[s.get! p]⟩:=by unfold vY;rw[if_neg b,z,if_pos g,e1]
   rw[j];refine⟨fun h=>absurd (congrArg ByteArray.size h) (show ¬(1:Nat)=0 by decide),fun _=>?_⟩;show Dn s c (p+1)=Dn s c (p+1)/\p+1<=s.size/\(p+1 < s.size->c.goes (p+1) (Utf8.decode s (p+1)).1=false)/\∃ k:Nat,3<=k/\k<=33/\_=sp k/\c.d0 (p+1)=_;refine⟨rfl,f,i,zU [s.get! p],(uJ g).2.1,(uJ g).2.2,(aF2.2 (uJ g).1).symm,?_⟩;rw[h0,rS f,if_pos g]
  ·have j:vY (s.extract p s.size)=⟨#[]⟩:=by unfold vY;rw[if_neg b,z,if_neg g]
   refine⟨fun _=>?_,fun h=>absurd j h⟩;have C:c.d0 (p+1)=c.fail 1 p:=by rw[h0,rS f,if_neg g]
   obtain⟨f1,K⟩:=aAA (e:=1) (p:=p) A;obtain⟨L,M⟩:=aLM (p:=p+1) o f i (by rw[C,f1];decide);rw[L,M,C];exact⟨f1,K⟩
end
end Go.Proofs.YtikffmloeifkpaaGreatDoor
