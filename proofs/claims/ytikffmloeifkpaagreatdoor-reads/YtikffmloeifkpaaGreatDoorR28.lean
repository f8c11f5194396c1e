/- Contracts. -/
import Derived.Test.YtikffmloeifkpaaGreatDoorR27
import Derived.Test.YtikffmloeifkpaaGreatDoorR25
set_option maxHeartbeats 16000000
set_option maxRecDepth 100000
namespace Go.Proofs.YtikffmloeifkpaaGreatDoor
open Go.RowKit Go.Lib Go.Deep Go.ChangeMaps Go.MapKept Tryz
section
variable {H O U gw cw:Nat} {T:List Tok} {vI:Value}
theorem infoW:(prog.info? 220).map (fun i=>(i.zero,i.size,i.bytes))=some (some (.agg #[Qc 0,Qc 0,.string (ByteArray.mk #[]),Qc 0]),4,40):=by kernel_rfl
theorem bXV{T:List Tok}:∀ (k:Nat) (b:Bool) (l:List Tok) (st:QS),(bLC T k b l st).1.L=st.L:=by
 intro k
 induction k with
 |zero=>exact fun _ _ _=>rfl
 |succ k ih=>
  grind[bLC,bKY,bMO]
theorem cAM{T:List Tok}{st:QS}{k:Int}(b:k≠0)(h:(bL6 T k st).a=0):st.a=0/\(bL6 T k st).i=st.i+1:=by
 have a:st.a=0:=by
  by_cases a:st.a=0
  ·exact a
  ·exact absurd (((Gr.knd T k st).stick a).1 ▸ h) a
 grind[bL6,dD,bLH,bMK]
theorem bUX(K:Nat)(hK:K<=40000)(B:QS->QS × Int)(gB:Grs B)(hB:bMW K H O U gw cw T vI 171 #[Qd O] B T.length)(st:QS)(Y:Value)(V:List V3)(w:World)(c:Nat)(n6:c<=K)(h:PW H O U gw cw T st Y vI V w)(hr:bLS T st c 8):
 Calls prog 107 #[Qd O] w fun e w'=>e= .returned (Qc (bNG T B st).2)/\Aft H O U gw cw T vI Y V w (bNG T B st).1 w':=by
 have HB:Hid (bMW K H O U gw cw T vI 171 #[Qd O] B T.length):=hB
 have HQ:∀ f,f=bKW T bL3 (bL6 T 1 st)->Hid (bNG T B st=(bL2 {d:=2,at_:=(bL9 T 1 st).e,s:=(bL9 T 1 st).f,g:=(bLC T T.length (!qat T f bLV) [] f).2,e:=(bLJ T T.length (qat T (bL0 T bLV (bLC T T.length (!qat T f bLV) [] f).1) bN3) [] (bL0 T bLV (bLC T T.length (!qat T f bLV) [] f).1)).2,c:=[(B (bLJ T T.length (qat T (bL0 T bLV (bLC T T.length (!qat T f bLV) [] f).1) bN3) [] (bL0 T bLV (bLC T T.length (!qat T f bLV) [] f).1)).1).2]} (B (bLJ T T.length (qat T (bL0 T bLV (bLC T T.length (!qat T f bLV) [] f).1) bN3) [] (bL0 T bLV (bLC T T.length (!qat T f bLV) [] f).1)).1).1,((B (bLJ T T.length (qat T (bL0 T bLV (bLC T T.length (!qat T f bLV) [] f).1) bN3) [] (bL0 T bLV (bLC T T.length (!qat T f bLV) [] f).1)).1).1.L.length:Int))):=fun f h=>by
  subst h;rfl
 clear hB;go_enter func107,ntmps107
 go_wp2_with fail
 refine(bPT 1 h).mono ?_;rintro e w1 ⟨rfl,h1,W⟩;have x1:=Px.I W (Y:=Y) (V:=V) (U:=U);have m9:=hr.gr (Gr.knd T 1 st) (Nat.le_of_lt h1.lt) Oa;clear h hr W;generalize bL6 T 1 st=f at*;generalize bL9 T 1 st=t at*;have f5:=HQ _ rfl;clear HQ;unfold Tok.g;have h2:=h1.alloc (bLM t);have x2:=x1.alloc (bLM t);have b3:=h2.boxed x2 {d:=2,at_:=t.e,s:=t.f} ⟨rfl,rfl,rfl,rfl,rfl,rfl,rfl,rfl⟩;have h3:=h2.alloc (bOG {d:=2,at_:=t.e,s:=t.f});have x3:=x2.alloc (bOG {d:=2,at_:=t.e,s:=t.f});have e2:(w1.alloc (bLM t)).1.size=w1.1.size+1:=Od
 rw[e2]at b3;clear h1 x1 h2 x2 e2;go_wp2_with fail
 refine(bPQ bL3 h3).mono ?_;rintro e w4 ⟨rfl,h4,e4⟩;have b4:=b3.px (Px.I e4 (Y:=Y) (V:=V));have x4:=x3.t (Px.I e4);have m8:=m9.gr (Gr.opn T bL3 f) (Nat.le_of_lt h4.lt) Oa;clear b3 h3 x3 e4 m9;generalize bKW T bL3 f=L at*;generalize w1.1.size+1=X at*;go_wp2_with fail
 refine(bNE bLV h4).mono ?_;rintro e w5 ⟨rfl,n5,rfl⟩;have b5:Bx H O U gw Y vI V w.1.size X {d:=2,at_:=t.e,s:=t.f} v0 (w4.drewN n5):=b4.old (fun _ _=>rfl);have h5:=h4.drewN n5;have x5:=x4.drewN n5;clear b4 h4 x4;generalize w4.drewN n5=W5 at*;obtain⟨i0,i8,m2,m1,m0⟩:=info_parts infoW;go_wp2_with fail
 go_loopg [6] T.length (fun m v6 wr=>∃ (R:QS) (more:Bool) (l:List Tok) (k v2:Value) (j:List V3),v6= .bool more/\PW H O U gw cw T R k vI j wr/\Px O U Y k V j w wr/\Bx H O U gw k vI j w.1.size X {d:=2,at_:=t.e,s:=t.f,g:=l} (.slice none 0 0,v2,.slice none 0 0) wr/\l.length+m<=T.length/\(more=true->bKZ T R<=m)/\bLS T R c 8/\bLC T m more l R=bLC T T.length (!qat T L bLV) [] L)
 case atStart=>exact⟨L,_,[],Y,_,V,rfl,h5,x5,b5,Od,fun _=>bNA T L,m8,rfl⟩
 case round=>
  obtain⟨R,more,l,k,v2,j,rfl,y,xc,S,d1,p,F,k1⟩:=hrel;have P:Hid (bLC T gk more l R=bLC T T.length (!qat T L bLV) [] L):=k1;obtain⟨_,_,_,p3,_,_,_⟩:=y.cells;clear k1 b5 h5 x5 m8
  by_cases hd:more=true/\R.a=0
  ·obtain⟨rfl,A⟩:=hd;have p:=p rfl
   obtain⟨m,rfl⟩:∃ m,gk=m+1:=⟨gk - 1,by
    unfold bKZ at p;rw[if_pos A]at p;have:=y.lt;omega⟩
   have t0:(R.a==0)=true:=by simp[A]
   have HS:Hid (bLC T m (qat T (bL6 T 1 R) bPJ) (l++[bL9 T 1 R]) (if qat T (bL6 T 1 R) bPJ=true then bKV T (bL6 T 1 R)else bL6 T 1 R)=bLC T T.length (!qat T L bLV) [] L):=by
    rw[Hid,<-P.o,bLC,if_pos (c:=true=true/\R.a=0) ⟨rfl,A⟩]
   have o0:bKZ T (bL6 T 1 R)<=m:=by
    unfold bKZ at p ⊢;rw[if_pos A]at p
    split
    ·rename_i h0;rw[(cAM Ob h0).2];omega
    ·exact Qn _
   clear P p;go_wp2_with fail
   refine(bPT 1 y).mono ?_;rintro e r ⟨rfl,h8,e8⟩;have b8:=S.px (Px.I e8 (Y:=k) (V:=j));have y8:=xc.t (Px.I e8);have m7:=F.gr (Gr.knd T 1 R) (Nat.le_of_lt h8.lt) Oa;clear S xc y e8 p3 t0 A F;generalize bL9 T 1 R=u at*;generalize bL6 T 1 R=s8 at*;unfold Tok.g;have E:=b8.old (w':=r.alloc (bLM u)) (fun _ a=>On a);have h9:=h8.alloc (bLM u);have y9:=y8.alloc (bLM u);have q9:(r.alloc (bLM u)).1[r.1.size]?=some (Qf #[Qc u.d,Qc u.e,.string u.f,Qc u.a] 220):=Qk r _;have s9:(r.alloc (bLM u)).1.size=r.1.size+1:=Od
   clear b8 h8 y8;obtain⟨⟨_,_,_,_,_,_⟩,⟨c6,_⟩,_⟩:=E.cells;have c6:(r.alloc (bLM u)).cell? ⟨X,6,none⟩=some v2:=c6;have I:=E.old (w':=(r.alloc (bLM u)).alloc (bLM u)) (fun _ a=>On a);obtain⟨_,⟨d6,_⟩,yf⟩:=I.cells;have f6:=yf 6;have q0:=h9.T;have d0:=E.lt;have d4:=h9.few;have k0:=E.n.p;obtain⟨ao,cp,rfl,_⟩:=eQ k0;have g8:some X≠(Value.slice ao l.length cp).ownBlock:=fun e=>E.ne (.r (.l e.symm)) rfl;obtain⟨l0,l1,i,l3,_⟩:=dG q9;have g2:Hid (Bx H O U gw k vI j w.1.size X {d:=2,at_:=t.e,s:=t.f,g:=l} (.slice none 0 0,.slice ao l.length cp,.slice none 0 0) (r.alloc (bLM u))/\PW H O U gw cw T s8 k vI j (r.alloc (bLM u))/\Px O U Y k V j w (r.alloc (bLM u))):=⟨E,h9,y9⟩;clear yf E h9 y9 I q9;go_upto_region 9 with(at_builtin;refine wpList_append_lies _ rfl _ _ 71 rfl H 220 i0 _ 4 40 underlying71 i8 m2 m1 m0 rfl Oa (.slice ao l.length cp) l.length (fJ l) rfl (k0.alloc _) ⟨r.1.size+1,0,none⟩ 1 1 [Qc u.d,Qc u.e,.string u.f,Qc u.a] rfl rfl (World.news_of_block (cs:=#[Qc u.d,Qc u.e,.string u.f,Qc u.a]) (t:=220) (fr:=(0,0)) (by rw[<-s9];exact Qk _ _)) (by simp[Value.oneCell']) Oa (by unfold maxLen;omega) Oa (by simp;omega) (r.1.size+1+1) Od ?_;intro gg J e3 k3 Z g1 y3;have q5:=(Z.frozen_far ⟨X,6,none⟩ (by simp;omega) g8).t f6;have q6:=(Z.cell_far ⟨X,6,none⟩ (by simp;omega) g8).t d6)
   obtain⟨E,h9,y9⟩:=g2.o;obtain⟨Q,y4,a6⟩:=E.par h9 y9 rfl rfl ⟨rfl,rfl⟩ (t:=u) (w1:=(r.alloc (bLM u)).alloc (bLM u)) ⟨rfl,rfl,rfl,Od⟩ (fun _ a=>On a) k3 Z (g1.imp id (fun e=>by simpa using e));clear E h9 y9 g2 k0 k3 Z g1 y3 q5 q6 c6 d6 f6 d0 g8 l0 l1 i l3 s9;go_wp2_with fail
   refine(bNE bPJ y4).mono ?_;rintro e o9 ⟨rfl,b6,rfl⟩;have a5:Bx H O U gw k vI j w.1.size X {d:=2,at_:=t.e,s:=t.f,g:=l++[u]} (.slice none 0 0,Qe gg (l.length+1) J,.slice none 0 0) ((e3.setCell ⟨X,6,none⟩ (Qe gg (l.length+1) J)).drewN b6):=Q.old (fun _ _=>rfl);have y6:=y4.drewN b6;have a7:=a6.drewN b6;clear Q y4 a6;generalize (e3.setCell ⟨X,6,none⟩ (Qe gg (l.length+1) J)).drewN b6=p8 at*;cases hcm:qat T s8 bPJ
   ·go_wp2;go_roundg m
    case rel=>
     refine⟨s8,false,l++[u],_,_,_,rfl,y6,a7,a5,by simp;omega,(fun h=>by cases h),m7,?_⟩;have:=HS.o;rw[hcm]at this;exact this
    case measure=>omega
   ·go_wp2_with fail
    refine(bMS y6).mono ?_;rintro e p0 ⟨rfl,y5,a2⟩;unfold Tok.g;go_wp2;go_roundg m
    case rel=>
     refine⟨bKV T s8,true,l++[u],_,_,_,rfl,y5,a7.t (Px.I a2),a5.px (Px.I a2 (Y:=k) (V:=j)),by simp;omega,fun _=>Qm ((Gr.b T s8).need (T:=T)) o0,m7.gr (Gr.b T s8) (Nat.le_of_lt y5.lt) Oa,?_⟩;have:=HS.o;rw[hcm]at this;exact this
    case measure=>omega
  ·have HF:Hid (bLC T gk more l R=(R,l)):=by
    cases gk
    ·rfl
    ·exact if_neg hd
   have n8:more=false\/(more=true/\(R.a==0)=false):=by
    cases more
    ·exact .l rfl
    ·exact .r ⟨rfl,by simpa using fun e=>hd ⟨rfl,e⟩⟩
   have f8:Hid (bNG T B st=(bL2 {d:=2,at_:=t.e,s:=t.f,g:=l,e:=(bLJ T T.length (qat T (bL0 T bLV R) bN3) [] (bL0 T bLV R)).2,c:=[(B (bLJ T T.length (qat T (bL0 T bLV R) bN3) [] (bL0 T bLV R)).1).2]} (B (bLJ T T.length (qat T (bL0 T bLV R) bN3) [] (bL0 T bLV R)).1).1,((B (bLJ T T.length (qat T (bL0 T bLV R) bN3) [] (bL0 T bLV R)).1).1.L.length:Int))):=by
    have W:bLC T T.length (!qat T L bLV) [] L=(R,l):=P.o.symm.t HF.o;have:=f5.o;rw[W]at this;exact this
   clear hd p P HF f5 d1 i8 m2 m1 m0;obtain⟨j0,n9,o3,o4,o5⟩:=info_parts info3;rcases n8 with rfl|⟨rfl,t0⟩
   all_goals
    go_wp2_with fail
    refine(bPP bLV y).mono ?_;rintro e l2 ⟨rfl,g5,c8⟩;have I:=S.px (Px.I c8 (Y:=k) (V:=j));have l4:=xc.t (Px.I c8);have j3:=F.gr (Gr.H T bLV R) (Nat.le_of_lt g5.lt) Oa;clear S xc c8 y F p3;generalize bL0 T bLV R=G at*;go_wp2_with fail
    refine(bNE bN3 g5).mono ?_;rintro e e3 ⟨rfl,b2,rfl⟩;have h6:Bx H O U gw k vI j w.1.size X {d:=2,at_:=t.e,s:=t.f,g:=l} (.slice none 0 0,v2,.slice none 0 0) (l2.drewN b2):=I.old (fun _ _=>rfl);have i4:=g5.drewN b2;have l5:=l4.drewN b2;clear I g5 l4;generalize l2.drewN b2=p7 at*;go_wp2_with fail
    go_loopg [8] T.length (fun m v8 wr=>∃ (R:QS) (more:Bool) (i:List Int) (k v3:Value) (j:List V3),v8= .bool more/\PW H O U gw cw T R k vI j wr/\Px O U Y k V j w wr/\Bx H O U gw k vI j w.1.size X {d:=2,at_:=t.e,s:=t.f,g:=l,e:=i} (.slice none 0 0,v2,v3) wr/\i.length+m<=T.length/\bKZ T R<=m/\(more=true->(dD T R.i).d≠0)/\bLS T R c 8/\bLJ T m more i R=bLJ T T.length (qat T G bN3) [] G)
    case atStart=>exact⟨G,_,[],_,_,_,rfl,i4,l5,h6,Od,bNA T G,fun h=>bNF h,j3,rfl⟩
    case round=>
     clear h6 i4 l5 j3;obtain⟨R,more,i,k,v3,j,rfl,y,xc,S,d1,p,d3,F,k1⟩:=hrel;have P:Hid (bLJ T gk more i R=bLJ T T.length (qat T G bN3) [] G):=k1;obtain⟨_,_,_,p3,_,_,_⟩:=y.cells;clear k1
     by_cases hd:more=true/\R.a=0
     ·obtain⟨rfl,A⟩:=hd;have d2:(dD T R.i).d≠0:=by exact d3 Qj
      clear d3
      obtain⟨m,rfl⟩:∃ m,gk=m+1:=⟨gk - 1,by
       unfold bKZ at p;rw[if_pos A]at p;have:=y.lt;omega⟩
      have t0:(R.a==0)=true:=by simp[A]
      have HS:Hid (bLJ T m (qat T (bM0 T (bKV T R)).1 bPJ) (i++[(bM0 T (bKV T R)).2]) (bM0 T (bKV T R)).1=bLJ T T.length (qat T G bN3) [] G):=by
       rw[Hid,<-P.o,bLJ,if_pos (c:=true=true/\R.a=0) ⟨rfl,A⟩]
      have i9:bKZ T (bKV T R)<=m:=by
       unfold bKZ at p ⊢;rw[if_pos A]at p
       split
       ·rw[bMK T R d2];omega
       ·exact Qn _
      have o1:bKZ T (bM0 T (bKV T R)).1<=m:=Qm ((Gr.where_ T (bKV T R)).need (T:=T)) i9;clear P p i9;go_wp2_with fail
      refine(bMS y).mono ?_;rintro e q3 ⟨rfl,y4,c9⟩;unfold Tok.g;have Q:=S.px (Px.I c9 (Y:=k) (V:=j));have a6:=xc.t (Px.I c9)
      have y1:bLS T (bKV T R) c 16:=by
       unfold bLS at F ⊢;have:=y4.lt;rw[bMK T R d2]at this ⊢;rw[bKY];omega
      have HW:Hid (bM0 T (bKV T R)=(bL2 {d:=9,at_:=(dD T (bKV T R).i).e,s:=bNU T (bMA T (bKV T R)),c:=[((bKV T R).L.length:Int),((bMN T (bMA T (bKV T R))).L.length:Int)]} (bMA T (bMN T (bMA T (bKV T R)))),((bMA T (bMN T (bMA T (bKV T R)))).L.length:Int))):=rfl;clear S xc y c9 p3 t0 A F d2;generalize bKV T R=b at*;have y2:b.L.length<=200000:=by unfold bLS at y1;omega
      obtain⟨N,m4,m3⟩:=bZJ T b;go_wp2_with fail
      refine(bYJ y4 y2).mono ?_;rintro e o9 ⟨rfl,o7,n0,y6,e6⟩;have a5:=Q.px e6;have a7:=a6.t e6;have j2:=y1.gr (Gr.atom T b) (Nat.le_of_lt y6.lt) Oa;clear Q y4 a6 e6 y1;generalize bMA T b=a3 at*;go_wp2_with fail
      refine(bQ4 y6).mono ?_;rintro e p0 ⟨rfl,y5,a2⟩;have h7:=a5.px (Px.I a2 (Y:=o7) (V:=n0));have l6:=a7.t (Px.I a2);have y0:=j2.gr (Gr.comp T a3) (Nat.le_of_lt y5.lt) Oa;have j5:=(Gr.comp T a3).pre;have j7:(bMN T a3).L.length<=200000:=by unfold bLS at y0;omega
      clear a5 y6 a7 a2 j2;generalize bNU T a3=o at*;generalize bMN T a3=q at*;have j4:=(Gr.atom T q).pre;go_wp2_with fail
      refine(bYJ y5 j7).mono ?_;rintro e n ⟨rfl,o8,a4,k7,e7⟩;have a9:=h7.px e7;have f2:=l6.t e7;have k9:=y0.gr (Gr.atom T q) (Nat.le_of_lt k7.lt) Oa;clear h7 y5 l6 e7 y0 j7;generalize bMA T q=C at*
      have k8:C.L[b.L.length]?=some N:=by
       have h1:a3.L[b.L.length]?=some N:=by rw[m4];simp
       obtain⟨M,hM⟩:=j5.t j4;rw[<-hM,List.getElem?_append_left (List.getElem?_eq_some_iff.1 h1).1];exact h1
      obtain⟨gr,n3,vx,m6,_,_,k5⟩:=k7.node k8;have i1:n.cell? ⟨gr,b.L.length*11+1,none⟩=some (Qc N.at_):=k5 1 Oa;obtain⟨_,_,_,_,_,p5,_⟩:=k7.cells;have g0:n.cell? ⟨U,0,none⟩=some (Qe gr C.L.length n3):=by rw[cell_of_row _ _ _ _ _ _ k7.prog,<-m6];rfl
      have j9:0<=(b.L.length:Int)/\(b.L.length:Int) < (C.L.length:Int):=by have:=(List.getElem?_eq_some_iff.1 k8).1;omega
      have i5:=k7.alloc (Qf #[Qc b.L.length,Qc q.L.length] 3);have l7:=f2.alloc (Qf #[Qc b.L.length,Qc q.L.length] 3);have n1:=a9.old (w':=n.alloc (Qf #[Qc b.L.length,Qc q.L.length] 3)) (fun _ a=>On a);have hv:NdW H (n.alloc (Qf #[Qc b.L.length,Qc q.L.length] 3)) {d:=9,at_:=N.at_,s:=o,c:=[(b.L.length:Int),(q.L.length:Int)]} (Qe n.1.size 2 2,.slice none 0 0,.slice none 0 0):=⟨bP6 _ k7.T _ _,⟨rfl,.l ⟨rfl,rfl⟩⟩,⟨rfl,.l ⟨rfl,rfl⟩⟩⟩
      have g3:∀ z,bM7 (Qe n.1.size 2 2,.slice none 0 0,.slice none 0 0) z->z=n.1.size:=by
       rintro z (a|a|a)<;>simp[Value.ownBlock]at a;exact a.symm
      have m5:∀ z,vI.ownBlock=some z->¬bM7 (Qe n.1.size 2 2,.slice none 0 0,.slice none 0 0) z:=fun z a hu=>absurd (bLP k7.its a) (by rw[g3 z hu];omega);have j6:C.L.length<=200000:=by unfold bLS at k9;omega
      have y7:w.1.size<=n.1.size:=f2.size;have n7:b.L.length<=200000:=y2;have f9:Hid (N.at_=(dD T b.i).e):=m3;clear k7 f2 k5 k8 j5 j4 y2 n1 m4 m3;go_wp2_with fail
      refine(bOI {d:=9,at_:=N.at_,s:=o,c:=[(b.L.length:Int),(q.L.length:Int)]} _ i5 hv m5 j6).mono ?_;rintro e a1 ⟨rfl,e1,k6,e9⟩;have D:=a9.px ((((Px.refl O U o8 a4 n).alloc (Qf #[Qc b.L.length,Qc q.L.length] 3)).t e9).more (v:=(Qe n.1.size 2 2,.slice none 0 0,.slice none 0 0)) (fun z a=>by rw[g3 z a];exact Ql _));have a8:=(l7.t e9).more (v:=(Qe n.1.size 2 2,.slice none 0 0,.slice none 0 0)) (fun z a=>by rw[g3 z a];exact y7);have o2:X < n.1.size:=a9.lt;clear a9 i5 l7 e9 hv m5 i1 g0 p5 m6;obtain⟨_,⟨_,c7,_⟩,_⟩:=D.cells;have i2:=D.old (w':=a1.alloc (Qf #[Qc C.L.length] 3)) (fun _ a=>On a);obtain⟨_,⟨_,d7,_⟩,yf⟩:=i2.cells;have f7:=yf 7;have p9:=k6.T;have j8:=D.lt;have d4:=k6.few;have k0:=D.n.h;obtain⟨ao,cp,rfl,_⟩:=eQ k0;have g7:some X≠(Value.slice ao i.length cp).ownBlock:=fun e=>D.ne (.r (.r e.symm)) rfl
      have g6:bLS T (bL2 {d:=9,at_:=N.at_,s:=o,c:=[(b.L.length:Int),(q.L.length:Int)]} C) c 8:=by
       have:=k9.gr (Gr.add {d:=9,at_:=N.at_,s:=o,c:=[(b.L.length:Int),(q.L.length:Int)]} C) (Nat.le_of_lt k6.lt) Oa;unfold bLS at this ⊢;omega
      have d9:Hid ((bM0 T b).1=bL2 {d:=9,at_:=N.at_,s:=o,c:=[(b.L.length:Int),(q.L.length:Int)]} C/\(bM0 T b).2=(C.L.length:Int)):=⟨by rw[HW.o,f9.o],by rw[HW.o]⟩;clear HW k9 f9;generalize bL2 {d:=9,at_:=N.at_,s:=o,c:=[(b.L.length:Int),(q.L.length:Int)]} C=k4 at*;generalize (C.L.length:Int)=xn at*;have g2:Hid (Bx H O U gw e1 vI (a4++[(Qe n.1.size 2 2,.slice none 0 0,.slice none 0 0)]) w.1.size X {d:=2,at_:=t.e,s:=t.f,g:=l,e:=i} (.slice none 0 0,v2,.slice ao i.length cp) a1/\PW H O U gw cw T k4 e1 vI (a4++[(Qe n.1.size 2 2,.slice none 0 0,.slice none 0 0)]) a1/\Px O U Y e1 V (a4++[(Qe n.1.size 2 2,.slice none 0 0,.slice none 0 0)]) w a1):=⟨D,k6,a8⟩;clear yf D k6 a8 i2 g3 j6 y7 n7 j9;generalize (a4++[(Qe n.1.size 2 2,.slice none 0 0,.slice none 0 0)]:List V3)=p4 at*;go_upto_region 21 with(at_builtin;refine wpList_append_lies _ rfl _ _ 70 rfl H 3 j0 _ 1 8 underlying70 n9 o3 o4 o5 rfl Oa (.slice ao i.length cp) i.length (bLU i) rfl (k0.alloc _) ⟨a1.1.size,0,none⟩ 1 1 [Qc xn] rfl rfl (World.news_of_block (cs:=#[Qc xn]) (t:=3) (fr:=(0,0)) (Qk a1 _)) (by simp[Value.oneCell']) Oa (by unfold maxLen;omega) Oa (by simp;omega) (a1.1.size+1) Od ?_;intro gg J q4 k2 Z g1 y3;have q5:=(Z.frozen_far ⟨X,7,none⟩ (by simp;omega) g7).t f7;have q6:=(Z.cell_far ⟨X,7,none⟩ (by simp;omega) g7).t d7)
      obtain⟨D,k6,a8⟩:=g2.o;obtain⟨n2,i6,p1⟩:=D.whe k6 a8 rfl rfl (x:=xn) (w1:=a1.alloc (Qf #[Qc xn] 3)) ⟨rfl,rfl,rfl,Od⟩ (fun _ a=>On a) k2 Z (g1.imp id (fun e=>by simpa using e));clear D k6 a8 g2 k0 k2 Z g1 y3 q5 q6 c7 d7 f7 j8 g7 o2;go_wp2_with fail
      refine(bNE bPJ i6).mono ?_;rintro e q7 ⟨rfl,q1,rfl⟩;go_wp2;go_roundg m
      case rel=>
       have W:=HS.o;rw[d9.o.1,d9.o.2]at W;have e2:=o1;rw[d9.o.1]at e2;exact⟨k4,_,i++[xn],_,_,_,rfl,i6.drewN _,p1.drewN _,n2.old (fun _ _=>rfl),by simp;omega,e2,fun h=>bNF h,g6,W⟩
      case measure=>omega
     ·have HF:Hid (bLJ T gk more i R=(R,i)):=by
       cases gk
       ·rfl
       ·exact if_neg hd
      have d8:more=false\/(more=true/\(R.a==0)=false):=by
       cases more
       ·exact .l rfl
       ·exact .r ⟨rfl,by simpa using fun e=>hd ⟨rfl,e⟩⟩
      have l9:Hid (bNG T B st=(bL2 {d:=2,at_:=t.e,s:=t.f,g:=l,e:=i,c:=[(B R).2]} (B R).1,((B R).1.L.length:Int))):=by
       have W:bLJ T T.length (qat T G bN3) [] G=(R,i):=P.o.symm.t HF.o;have:=f8.o;rw[W]at this;exact this
      have i3:=gB R;clear hd p P HF f8 d3 d1;rcases d8 with rfl|⟨rfl,t1⟩
      all_goals
       go_wp2_with fail
       refine(HB.o _ _ _ _ c n6 y (bNA T R) F.room).mono ?_;rintro e e5 ⟨rfl,q2,p6,g4,f1⟩;have b9:=S.px f1;have f4:=xc.t f1;have j1:=F.gr i3 (Nat.le_of_lt g4.lt) Oa;clear S xc f1 y F p3 i3;generalize (B R).2=b7 at*;generalize (B R).1=o6 at*;have c5:=b9.body g4 f4 b7;have b1:=b9.old (w':=e5.alloc (Qf #[Qc b7] 3)) (fun _ a=>On a);have i7:=(g4.alloc (Qf #[Qc b7] 3)).U b1.o 5 (Qe e5.1.size 1 1);have l8:=(f4.alloc (Qf #[Qc b7] 3)).J b1.m 5 (Qe e5.1.size 1 1);obtain⟨⟨_,_,_,_,_,d5⟩,_,df⟩:=b1.cells;have n4:=df 5;obtain⟨⟨z0,z1,z2,z3,z4,z5⟩,⟨z6,z7,z8,z9,p2⟩,zf⟩:=c5.cells;have g9:o6.L.length<=200000:=by unfold bLS at j1;omega
       clear b9 b1 g4 f4 j1 df;go_wp2_with fail
       refine(bO2 c5 i7 l8 g9).mono ?_;rintro e q8 ⟨rfl,hA⟩;have HA:Hid _:=hA;clear hA c5 i7 l8 z0 z1 z2 z3 z4 z5 z6 z7 z8 z9 p2 zf d5 n4;go_wp2;go_ret;rw[l9.o];exact⟨rfl,HA.o⟩
end
section
structure Ns where
 b:List ByteArray
 a:Int
 e:Int
 d:Sl
def Ns.E(s:Ns)(e p:Int):Ns:=if s.a=0\/p < s.e\/(p=s.e/\e < s.a)then {s with a:=e,e:=p}else s
def bQA(x:ByteArray):List ByteArray->Int->Int
 |[],_=>-1
 |y::r,k=>if y=x then k else bQA x r (k+1)
def Ns.var(s:Ns)(x:ByteArray):Int:=bQA x s.b 0
def bL8(x:ByteArray)(kd:Int):List (ByteArray × Int)->Int->Int
 |[],_=>-1
 |(y,k)::r,n=>if y=x then(if k=kd then n else -1)else bL8 x kd r (if k=kd then n+1 else n)
def Ns.f(s:Ns)(k p:Int):Ns:={s with d:=s.d++[(k,p)]}
def Ns.call(s:Ns)(FQ:List (Nat × Nat))(ref:Int)(n:Nat)(p:Int):Ns:=
 if ref < 0 then s else
  let f:=FQ.getD ref.toNat (0,0)
  let s1:=if f.1≠n then s.E 5 p else s
  if 0 < f.2 then s1.f 4 p else s1
def nm1(S:List (ByteArray × Int))(FQ:List (Nat × Nat))(a:Nd)(n:Nat)(s:Ns):Ns:=
 if a.a=1\/(a.a=9/\a.flag=false)then(if s.var a.h < 0 then s.E 4 a.b else s)
 else if a.a=2\/a.a=10 then
  let s1:=s.f (if a.a=10 then 2 else 1) a.b
  if bL8 a.h 1 S 0 < 0 then s1.E 4 a.b else s1
 else if a.a=3 then
  let s1:=s.call FQ (bL8 a.h 2 S 0) n a.b
  if bL8 a.h 2 S 0 < 0 then s1.E 4 a.b else s1
 else if a.a=6 then(if a.op=30\/a.op=31 then s.f 3 a.e else s)
 else s
def Ns.letQ(s:Ns)(x:ByteArray)(p:Int):Ns:=
 if 0<=s.var x then s.E 4 p else if 12<=s.b.length then s.E 5 p else {s with b:=s.b++[x]}
def nmT(S:List (ByteArray × Int))(FQ:List (Nat × Nat)):Tr->Ns->Ns
 | .nil,s=>s
 | .node _ _ a l r,s=>if a.a=9/\a.flag=true then(nmT S FQ l s).letQ a.h a.b else nmT S FQ r (nmT S FQ l (nm1 S FQ a (aD l) s))
structure bNM(a b:NQ):Prop where
 d:b.d=a.d
 at_:b.at_=a.at_
 s:b.s=a.s
 n:b.n=a.n
 mid:b.mid=a.mid
 c:b.c=a.c
 g:b.g=a.g
 e:b.e=a.e
 f:b.f=a.f
theorem bNM.refl(a:NQ):bNM a a:=⟨rfl,rfl,rfl,rfl,rfl,rfl,rfl,rfl,rfl⟩
theorem bNM.t{a b c:NQ}(h:bNM a b)(k:bNM b c):bNM a c:=⟨k.d.t h.d,k.at_.t h.at_,k.s.t h.s,k.n.t h.n,k.mid.t h.mid,k.c.t h.c,k.g.t h.g,k.e.t h.e,k.f.t h.f⟩
structure Upd(lo hi:Int)(L K:List NQ):Prop where
 len:K.length=L.length
 same:∀ (i:Nat) (a:NQ),L[i]?=some a->∃ b,K[i]?=some b/\bNM a b/\(b=a\/(lo<=i/\(i:Int) < hi))
theorem Upd.refl(lo hi:Int)(L:List NQ):Upd lo hi L L:=⟨rfl,(by grind[bNM.refl])⟩
theorem Upd.t{lo hi:Int}{L K d:List NQ}(h:Upd lo hi L K)(k:Upd lo hi K d):Upd lo hi L d:=
 ⟨k.len.t h.len,fun i a f=>by
   obtain⟨b,g,e,m⟩:=h.same i a f;obtain⟨c,j,l,n⟩:=k.same i b g;refine⟨c,j,e.t l,?_⟩
   grind⟩
theorem Upd.wide{lo hi lo' hi':Int}{L K:List NQ}(h:Upd lo hi L K)(d:lo'<=lo)(e:hi<=hi'):Upd lo' hi' L K:=
 ⟨h.len,fun i a c=>by
   obtain⟨b,f,g,j⟩:=h.same i a c
   grind⟩
theorem Upd.set{L:List NQ}{i:Nat}{a b:NQ}(h:L[i]?=some a)(f:bNM a b):Upd i (i+1) L (L.set i b):=
 ⟨Od,fun j c d=>by
   by_cases e:j=i
   ·grind
   grind[List.getElem?_set_ne,bNM.refl]⟩
def bQI(l:List ByteArray):List Value:=l.map Value.string
structure NmW(H X U:Nat)(L:List NQ)(I A F:List Int)(m:Int)(s:Ns)(Y vI D M B E:Value)(V:List V3)(w:World):Prop where
 nm:w.1[X]?=some (Qf #[Qd U,E,Qc s.a,Qc s.e] 129)
 prog:w.1[U]?=some (Qf #[Y,vI,D,M,Qc m,B] 76)
 nodes:w.ownsRow H 73 11 Y L.length (bMY L V)
 its:w.ownsRow H 3 1 vI I.length (bLU I)
 arrs:w.ownsRow H 3 1 D A.length (bLU A)
 fns:w.ownsRow H 3 1 M F.length (bLU F)
 d:w.ownsRow H 55 3 B s.d.length (dC s.d)
 b:w.ownsRow H 9 1 E s.b.length (bQI s.b)
 c:bMQ H w L V
 size:H<=w.1.size
structure Nx(X U:Nat)(Y B E C G:Value)(w w':World):Prop where
 os:w'.os=w.os
 tape:w'.tape=w.tape
 output:w'.output=w.output
 size:w.1.size<=w'.1.size
 keep:∀ k,k < w.1.size->k≠X->k≠U->Y.ownBlock≠some k->B.ownBlock≠some k->E.ownBlock≠some k->w'.1[k]?=w.1[k]?
 rs:∀ k,C.ownBlock=some k->B.ownBlock=some k\/w.1.size<=k
 rv:∀ k,G.ownBlock=some k->E.ownBlock=some k\/w.1.size<=k
section
variable {H X U:Nat} {L K:List NQ} {I A F:List Int} {m:Int} {s:Ns} {Y vI D M B E C G N O:Value} {V:List V3} {w w' w2:World}
theorem Nx.refl(X U:Nat)(Y B E:Value)(w:World):Nx X U Y B E B E w w:=⟨rfl,rfl,rfl,Oa,Od,Qg,Qg⟩
theorem Nx.t(h:Nx X U Y B E C G w w')(k:Nx X U Y C G N O w' w2):Nx X U Y B E N O w w2:=by
 refine⟨k.os.t h.os,k.tape.t h.tape,k.output.t h.output,Qm h.size k.size,fun j a b c d f g=>?_,fun j a=>?_,fun j a=>?_⟩
 ·refine(k.keep j (Nat.lt_of_lt_of_le a h.size) b c d (fun e=>?_) (fun e=>?_)).t (h.keep j a b c d f g)
  ·rcases h.rs j e with e|e
   ·exact f e
   ·omega
  ·rcases h.rv j e with e|e
   ·exact g e
   ·omega
 ·rcases k.rs j a with e|e
  ·exact h.rs j e
  ·exact .r (Qm h.size e)
 ·rcases k.rv j a with e|e
  ·exact h.rv j e
  ·exact .r (Qm h.size e)
theorem NmW.same(h:NmW H X U L I A F m s Y vI D M B E V w)(b:∀ k,k < w.1.size->w'.1[k]?=w.1[k]?)(j:w.1.size<=w'.1.size):NmW H X U L I A F m s Y vI D M B E V w':=by
 have lt:∀ {k:Nat} {o:Obj},w.1[k]?=some o->k < w.1.size:=Qg;have a:∀ {n d:Nat} {e:TypeId} {v:Value} {f:List Value},w.ownsRow H e d v n f->w'.ownsRow H e d v n f:=(by grind[cD,bLP])
 exact⟨(b _ (lt h.nm)).t h.nm,(b _ (lt h.prog)).t h.prog,a h.nodes,a h.its,a h.arrs,a h.fns,a h.d,a h.b,h.c.move (fun k g=>by
  obtain⟨⟨c,i⟩,_⟩:=h.c.typ g
  grind),Oi h.size⟩
theorem NmW.drewN(h:NmW H X U L I A F m s Y vI D M B E V w)(n:Nat):NmW H X U L I A F m s Y vI D M B E V (w.drewN n):=h.same Od Ol
theorem NmW.alloc(h:NmW H X U L I A F m s Y vI D M B E V w)(o:Obj):NmW H X U L I A F m s Y vI D M B E V (w.alloc o):=h.same (by grind[Below.heap_alloc]) Od
theorem Nx.drewN(h:Nx X U Y B E C G w w')(n:Nat):Nx X U Y B E C G w (w'.drewN n):=⟨h.os,h.tape,h.output,h.size,h.keep,h.rs,h.rv⟩
theorem Nx.alloc(h:Nx X U Y B E C G w w')(o:Obj):Nx X U Y B E C G w (w'.alloc o):=
 ⟨h.os,h.tape,h.output,Qm h.size Od,fun k a b c d e f=>(On (Nat.lt_of_lt_of_le a h.size)).t (h.keep k a b c d e f),h.rs,h.rv⟩
theorem NmW.turn(h:NmW H X U L I A F m s Y vI D M B E V w){d:Ns}(f:d.d=s.d)(q:d.b=s.b)(y:w'.1[X]?=some (Qf #[Qd U,E,Qc d.a,Qc d.e] 129))(a:Ex X w w'):NmW H X U L I A F m d Y vI D M B E V w'/\Nx X U Y B E B E w w':=by
 have off:∀ {k:Nat} {p:Array Value} {t:TypeId},w.1[k]?=some (.cells p t (0,0))->t≠129->w'.1[k]?=w.1[k]?:=fun g i=>a.block _ Qg (bEF g h.nm i)
 have b:∀ {n l:Nat} {e:TypeId} {v:Value} {o:List Value},w.ownsRow H e l v n o->e≠129->w'.ownsRow H e l v n o:=fun j i=>cD j (fun k u=>by
  obtain⟨⟨c,g⟩,_⟩:=bEH j u
  grind)
 have r:bMQ H w' L V:=h.c.move (fun k z=>by
  obtain⟨⟨c,g⟩,_⟩:=h.c.typ z
  grind)
 exact⟨⟨y,(off h.prog Ob).t h.prog,b h.nodes Ob,b h.its Ob,b h.arrs Ob,b h.fns Ob,by rw[f];exact b h.d Ob,by rw[q];exact b h.b Ob,r,Qb h.size a.size⟩,a.os,a.tape,a.output,a.size,fun k x f _ _ _ _=>a.block k x f,Qg,Qg⟩
theorem NmW.cells(h:NmW H X U L I A F m s Y vI D M B E V w):(w.cell? ⟨X,0,none⟩=some (Qd U)/\w.cell? ⟨X,1,none⟩=some E/\w.cell? ⟨X,2,none⟩=some (Qc s.a)/\w.cell? ⟨X,3,none⟩=some (Qc s.e)/\∀ o,w.frozen? ⟨X,o,none⟩=false)/\w.cell? ⟨U,0,none⟩=some Y/\w.cell? ⟨U,1,none⟩=some vI/\w.cell? ⟨U,2,none⟩=some D/\w.cell? ⟨U,3,none⟩=some M/\w.cell? ⟨U,4,none⟩=some (Qc m)/\w.cell? ⟨U,5,none⟩=some B/\∀ o,w.frozen? ⟨U,o,none⟩=false:=
 ⟨⟨Og h.nm rfl,Og h.nm rfl,Og h.nm rfl,Og h.nm rfl,fun o=>by simp[World.frozen?,h.nm]⟩,Og h.prog rfl,Og h.prog rfl,Og h.prog rfl,Og h.prog rfl,Og h.prog rfl,Og h.prog rfl,fun o=>by simp[World.frozen?,h.prog]⟩
theorem NmW.node(h:NmW H X U L I A F m s Y vI D M B E V w){i:Nat}{a:NQ}(hi:L[i]?=some a):∃ g J v,Y= Qe g L.length J/\V[i]?=some v/\NdW H w a v/\(∀ j,j < 11->w.cell? ⟨g,i*11+j,none⟩=(NdV a v)[j]?)/\∀ o,w.frozen? ⟨g,o,none⟩=false:=by
 obtain⟨v,b,f⟩:=h.c.get hi;have p:=(List.getElem?_eq_some_iff.1 hi).1;obtain⟨_,e⟩:=h.nodes;rcases e with⟨_,q⟩|⟨g,J,k,c,_,n,_,_,_,r⟩
 ·omega
 ·refine⟨g,J,v,c,b,f,fun j d=>?_,(by grind[World.frozen?])⟩;have l:=bQ7 L V i a v hi b j d
  grind[cell_of_row]
theorem bMJ(e p:Int)(h:NmW H X U L I A F m s Y vI D M B E V w):Calls prog 65 #[Qd X,Qc e,Qc p] w fun x q=>x= .returned (.tuple #[])/\NmW H X U L I A F m (s.E e p) Y vI D M B E V q/\Nx X U Y B E B E w q:=by
 obtain⟨⟨_,_,c2,c3,d⟩,_⟩:=h.cells;have t:=d 2;have f3:=d 3
 by_cases b:s.a=0\/p < s.e\/(p=s.e/\e < s.a)
 ·have k:Hid (s.E e p={s with a:=e,e:=p}):=if_pos b
  have g:(s.a==0)=true\/((s.a==0)=false/\(decide (p < s.e))=true)\/((s.a==0)=false/\decide (p < s.e)=false/\(p==s.e)=true/\decide (e < s.a)=true):=by
   by_cases c:s.a=0
   ·exact .l (by simp[c])
   ·have c:(s.a==0)=false:=by simp[c]
    by_cases i:p < s.e
    ·exact .r (.l ⟨c,by simp[i]⟩)
    ·rcases b with b|b|b
     ·simp[b]at c
     ·exact absurd b i
     ·exact .r (.r ⟨c,by simp[i],by simp[b.1],by simp[b.2]⟩)
  have f:Hid (NmW H X U L I A F m s Y vI D M B E V w):=h;clear b h d;rcases g with l|⟨l,n⟩|⟨l,n,o,r⟩
  all_goals
   go_enter func65,ntmps65
   go_wp2;go_end0
   rw[k.o];exact⟨rfl,f.o.turn rfl rfl (aM _ (aM _ f.o.nm)) (((Ex.refl X w).set 2 _).set 3 _)⟩
 ·have k:Hid (s.E e p=s):=if_neg b
  have g:(s.a==0)=false/\decide (p < s.e)=false/\((p==s.e)=false\/((p==s.e)=true/\decide (e < s.a)=false)):=by
   refine⟨by simpa using fun h=>b (.l h),by simpa using fun h=>b (.r (.l h)),?_⟩
   by_cases j:p=s.e
   ·exact .r ⟨by simp[j],by simpa using fun h=>b (.r (.r ⟨j,h⟩))⟩
   ·exact .l (by simp[j])
  have f:Hid (NmW H X U L I A F m s Y vI D M B E V w):=h;clear b h d;obtain⟨l,n,o|⟨o,r⟩⟩:=g
  all_goals
   go_enter func65,ntmps65
   go_wp2;go_end0
   rw[k.o];exact⟨rfl,f.o,Nx.refl _ _ _ _ _ _⟩
end
end
section
variable {H X U:Nat} {L:List NQ} {I A F:List Int} {m:Int} {s:Ns} {Y vI D M B E:Value} {V:List V3} {w:World}
theorem bS0(x:ByteArray):∀ (l:List ByteArray) (k:Int) (i:Nat) (y:ByteArray),l[i]?=some y->(∀ j,j < i->l[j]?≠some x)->bQA x l k=bQA x (l.drop i) (k+i)
 |[],_,i,y,h,_=>by simp at h
 |z::r,k,0,y,_,_=>Od
 |z::r,k,i+1,y,h,hj=>by
  have a:z≠x:=fun e=>hj 0 Oa (by simp[e]);show(if z=x then k else bQA x r (k+1))=_;rw[if_neg a,bS0 x r (k+1) i y (by simpa using h) Qg]
  grind
theorem bRZ(x:ByteArray):∀ (l:List ByteArray) (k:Int),(∀ j:Nat,l[j]?≠some x)->bQA x l k= -1
 |[],_,_=>rfl
 |z::r,k,h=>by
  have a:z≠x:=fun e=>h 0 (by simp[e]);show(if z=x then k else bQA x r (k+1))= -1;rw[if_neg a];exact bRZ x r (k+1) (fun j=>by have:=h (j+1);assumption)
theorem bUC{v:Value}{l:List ByteArray}(h:w.ownsRow H 9 1 v l.length (bQI l)){i:Nat}{y:ByteArray}(hi:l[i]?=some y):∃ g J,v= Qe g l.length J/\w.cell? ⟨g,i,none⟩=some (.string y):=by
 have f:=(List.getElem?_eq_some_iff.1 hi).1;obtain⟨_,b⟩:=h;rcases b with⟨_,j⟩|⟨g,J,c,a,_,e,_,_,_,k⟩
 ·omega
 ·refine⟨g,J,a,?_⟩;have d:(bQI l)[i]?=some (.string y):=by simp[bQI,hi]
  grind[cell_of_row]
theorem bPL(x:ByteArray)(S:s.b.length<=100000)(h:NmW H X U L I A F m s Y vI D M B E V w):Calls prog 109 #[Qd X,.string x] w fun e u=>e= .returned (Qc (s.var x))/\w=u:=by
 obtain⟨⟨_,c1,_⟩,_⟩:=h.cells;obtain⟨v,z,rfl,_⟩:=eQ h.b;go_enter func109,ntmps109
 go_wp2_with fail
 go_loopg [5] (s.b.length+1) (fun o t wr=>∃ i:Nat,t= Qc i/\wr=w/\i+o=s.b.length+1/\∀ j,j < i->s.b[j]?≠some x)
 case atStart=>exact⟨0,rfl,rfl,Oa,fun j a=>Oa⟩
 case round=>
  obtain⟨i,rfl,rfl,R,a⟩:=hrel
  by_cases hi:i < s.b.length
  ·obtain⟨y,c⟩:∃ y,s.b[i]?=some y:=⟨s.b[i],by simp[hi]⟩;obtain⟨g,J,k,Q⟩:=bUC h.b c;have P:0<=(i:Int)/\(i:Int) < (s.b.length:Int):=Oa
   have q:decide ((i:Int) < (s.b.length:Int))=true:=by simp;omega
   simp only[Value.slice.injEq]at k;obtain⟨rfl,_,rfl⟩:=k;obtain⟨p,rfl⟩:=Oj gk;have W:IntKind.i64.wrap ((i:Int)+1)=(i:Int)+1:=IntWalk.i64_in _ Oa
   by_cases b:y=x
   ·have r:(y.toList==x.toList)=true:=by rw[bOK,decide_eq_true b]
    have d:Hid (s.var x=(i:Int)):=by
     unfold Hid Ns.var;rw[bS0 x s.b 0 i y c a]
     have:s.b.drop i=y::s.b.drop (i+1):=by
      rw[List.drop_eq_getElem_cons hi]
      congr 1
      have:=List.getElem?_eq_getElem hi;rw[c]at this;exact(Oq this).symm
     rw[this];show(if y=x then(0+(i:Int))else _)=_;rw[if_pos b];omega
    clear b a c;go_wp2;go_ret;rw[d.o];exact⟨rfl,rfl⟩
   ·have r:(y.toList==x.toList)=false:=by rw[bOK,decide_eq_false b]
    have n:Hid (∀ j,j < i+1->s.b[j]?≠some x):=fun j f=>by
     by_cases e:j=i
     ·rw[e,c];exact fun l=>b (Oq l)
     ·exact a j Oa
    clear b a c;go_wp2;go_roundg p
    case rel=>exact⟨i+1,Od,rfl,Oa,n.o⟩
    case measure=>omega
  ·have q:decide ((i:Int) < (s.b.length:Int))=false:=by simp;omega
   have d:Hid (s.var x= -1):=bRZ x s.b 0 (fun j=>by
    by_cases f:j < i
    ·exact a j f
    ·rw[List.getElem?_eq_none Oa];simp)
   clear a;go_wp2;go_ret;rw[d.o];exact⟨rfl,rfl⟩
end
section
theorem cA2{s:ByteArray}:∀ (f p:Nat) (g:Bool) (l:List Tok) (c:Cut),p<=s.size->s.size < p+f->Wb s p g l c->
 ((Dn s c p).a≠0->wdL s f p g l=([],(Dn s c p).a,(Dn s c p).e))/\((Dn s c p).a=0->∃ Q,wdL s f p g l=(Q,0,0)/\QTL ((Dn s c p).words++[⟨0,s.size,ByteArray.mk #[],0⟩]) Q):=by
 intro f
 induction f with
 |zero=>omega
 |succ f ih=>
  intro p g l c S hf h;unfold wdL
  by_cases a:p < s.size
  ·rw[if_pos a];have hw:=Lib.decode_width_pos s p a;have o:=zW s p a;have Z:chQ (s.extract p s.size)=cq s p:=rfl;rw[Z];have R:=Cut.Z c p;have q:(c.D p).f=s:=R.1.t h.f;rcases bQ3 s p with⟨r,u,J⟩|⟨r,u⟩
   ·
     rw[r,if_pos rfl]
     have j:c.goes p (Utf8.decode s p).1=false:=by
      cases g
      ·exact h.b rfl a
      ·unfold Cut.goes;rw[if_pos (h.com_ rfl),h.f,u];simp
     have i:(c.D p).N p (Utf8.decode s p).1=({c.D p with start:=p}:Cut).fail 1 p:=by
      rw[J];rfl
     obtain⟨f1,f2⟩:=bQ0 (c:=({c.D p with start:=p}:Cut)) (e:=1) (p:=p) h.fin
     grind[Dn,start,bT3]
   ·rw[r];have P: ¬((Utf8.decode s p).2:Int)=0:=Oa
    simp only[P,if_false];cases g
    ·have j:=h.b rfl a;have b:=bT3 h.f a j
     by_cases v:(Utf8.decode s p).1=35
     ·
       have i:(c.D p).N p (Utf8.decode s p).1={c.D p with start:=p,mode:=1}:=by
        rw[v];rfl
       rw[i,if_neg (by show ¬(c.D p).a≠0;exact fun d=>d h.fin)]at b;rw[b,v];exact ih _ _ _ _ o Oa ⟨q,h.fin,fun _=>rfl,h.fin,h.words,(fun e=>by cases e)⟩
     by_cases a1:aA0 (Utf8.decode s p).1=true
     ·have i:(c.D p).N p (Utf8.decode s p).1={c.D p with start:=p,mode:=0}:=by
       unfold Cut.N;simp[*]
      rw[i,if_neg (by show ¬(c.D p).a≠0;exact fun d=>d h.fin)]at b
      have k:bNT false ((Utf8.decode s p).1:Int)=true:=by
       grind[aA0,bNT]
      have n:bQO false ((Utf8.decode s p).1:Int)=false:=by
       grind[bQO,Utf8.decode]
      rw[b,if_pos k,n];simp only[Oa];exact ih _ _ _ _ o Oa ⟨q,h.fin,Od,h.fin,h.words,fun _ _=>rfl⟩
     ·have k: ¬bNT false ((Utf8.decode s p).1:Int)=true:=by
       grind[aA0,bNT]
      rw[if_neg k];obtain⟨w1,w2⟩:=bIF (cf:=c.D p) a q h.fin u Qh v b
      by_cases x:(bMI s p).2.2≠0
      ·grind
      ·have x:(bMI s p).2.2=0:=Oa
       obtain⟨c2,t,q1,q2,q3,q4,q5,q6,q7⟩:=w2 x;obtain⟨wl,wr⟩:=bT9 a x;rw[Oh,q1];refine ih _ _ _ _ wr Oa ⟨q2,q3,Od,q5,?_,Qg⟩;rw[q6];exact h.words.snoc q7
    ·
      have hm:=h.com_ rfl
      have W:c.D p=c:=by
       grind[Cut.D]
      have k:bNT true ((Utf8.decode s p).1:Int)=true:=rfl;rw[if_pos k];simp only[Int.toNat_natCast]
      have a2:c.goes p (Utf8.decode s p).1=(((Utf8.decode s p).1:Int)!=10):=by
       grind[Cut.goes]
      by_cases z:(Utf8.decode s p).1=10
      ·have j:c.goes p (Utf8.decode s p).1=false:=Qg
       have b:=bT3 h.f a j
       have i:(c.D p).N p (Utf8.decode s p).1={c.D p with start:=p,mode:=0}:=by
        rw[z];rfl
       rw[i,if_neg (by show ¬(c.D p).a≠0;exact fun d=>d h.fin)]at b;have n:bQO true ((Utf8.decode s p).1:Int)=false:=by rw[z];rfl
       rw[b,n];exact ih _ _ _ _ o Oa ⟨q,h.fin,Od,h.fin,h.words,fun _ _=>rfl⟩
      ·have j:c.goes p (Utf8.decode s p).1=true:=by
        grind
       have n:bQO true ((Utf8.decode s p).1:Int)=true:=by
        grind[bQO,Utf8.decode]
       rw[bU0 h.f a h.a j,n]
       have y:c.D (p+(Utf8.decode s p).2)=c:=by
        grind[Cut.D]
       refine ih _ _ _ _ o Oa ⟨h.f,h.a,Oa,by rw[y];exact h.a,?_,Od⟩;rw[y,<-W];exact h.words
  ·rw[if_neg a];have b:=bYC h.f a S;rw[b];refine⟨fun d=>absurd h.fin d,fun _=>⟨_,rfl,h.words.snoc ?_⟩⟩;exact⟨rfl,.l ⟨rfl,rfl,rfl⟩⟩
theorem bRY(s:ByteArray)(a:s.size<=4000):((dN s).a≠0->bNC s=([],(dN s).a,(dN s).e))/\((dN s).a=0->∃ Q,bNC s=(Q,0,0)/\QTL (aW s) Q):=by
 unfold bNC;rw[Oh,cAQ];have h:=cA2 (s:=s) (s.size+1) 0 false [] ⟨s,[],0,0,0,0⟩ Oa Oa ⟨rfl,rfl,Od,rfl,trivial,fun _ _=>rfl⟩;exact h
variable {T Q:List Tok} {r:Rd} {st:QS}
theorem QTL.get:∀ {T Q:List Tok},QTL T Q->T.length=Q.length/\∀ i,i < T.length->QT (dD T i) (dD Q i)
 |[],[],_=>⟨rfl,fun i hi=>absurd hi (Nat.not_lt_zero i)⟩
 |a::l,b::m,h=>by
  obtain⟨c,d⟩:=QTL.get h.2;refine⟨by simp[c],fun i hi=>?_⟩;cases i with
  |zero=>exact h.1
  |succ i=>exact d i (by simpa using hi)
structure Tw(T Q:List Tok):Prop where
 len:T.length=Q.length
 tok:∀ i,i < T.length->QT (dD T i) (dD Q i)
 ends:cY T
 small:eF T
 some:0 < T.length
structure Ro(r:Rd)(st:QS):Prop where
 c:r.a=0
 d:st.a=0
 i:r.b=st.i
 o:r.c=st.op
 lo:0<=r.c
 hi:r.c<=10
structure Rf(r:Rd)(st:QS):Prop where
 c:r.a≠0
 d:st.a=r.a
 p:st.e=r.e
def Rl(r:Rd)(st:QS):Prop:=Ro r st\/Rf r st
theorem Rl.a(h:Rl r st):st.a=r.a:=by
 rcases h with h|h
 ·rw[h.c,h.d]
 ·exact h.d
theorem Rl.ok(h:Rl r st)(a:r.a=0):Ro r st:=h.resolve_right (fun e=>e.c a)
theorem cA8{i j:Nat}(hi:3<=i)(c:i < 34)(d:3<=j)(b:j < 34)(h:sp i=sp j):i=j:=by
 have a:(List.range 34).all (fun i=>(List.range 34).all (fun j=>decide (3<=i->3<=j->sp i=sp j->i=j)))=true:=by decide+kernel
 exact of_decide_eq_true (List.all_eq_true.1 (List.all_eq_true.1 a i (List.mem_range.2 c)) j (List.mem_range.2 b)) hi d h
theorem QT.at_{t q:Tok}(h:QT t q){k:Nat}(f:3<=k)(c:k < 34):(decide (q.d=3)&&decide (q.f=sp k))=decide (t.d=(k:Int)):=by
 rcases h.2 with⟨a,b,_⟩|⟨a,b,_⟩|⟨a,b,_⟩|⟨a,b,d,e⟩
 ·rw[decide_eq_false (p:=q.d=3) Oa,decide_eq_false (p:=t.d=(k:Int)) Oa];rfl
 ·rw[decide_eq_false (p:=q.d=3) Oa,decide_eq_false (p:=t.d=(k:Int)) Oa];rfl
 ·rw[decide_eq_false (p:=q.d=3) Oa,decide_eq_false (p:=t.d=(k:Int)) Oa];rfl
 ·rw[decide_eq_true d,Bool.true_and,decide_eq_decide,e];constructor
  ·intro h;have:=cA8 Oa Oa f c h;omega
  ·intro h;rw[h];rfl
theorem QT.any_{t q:Tok}(h:QT t q){all:ByteArray}{O:List Int}(i:(List.range 34).all (fun k=>decide (k < 3)||(inQ (sp k) all==aQ O k))=true)(e:aQ O 0=false)(f:aQ O 1=false)(g:aQ O 2=false):(decide (q.d=3)&&inQ q.f all)=aQ O t.d:=by
 rcases h.2 with⟨a,b,_⟩|⟨a,b,_⟩|⟨a,b,_⟩|⟨a,b,c,d⟩
 ·rw[decide_eq_false Oa,a,e];rfl
 ·rw[decide_eq_false Oa,a,f];rfl
 ·rw[decide_eq_false Oa,a,g];rfl
 ·rw[decide_eq_true c,Bool.true_and,d];have:=List.all_eq_true.1 i t.d.toNat (List.mem_range.2 Oa);rw[decide_eq_false Oa,Bool.false_or,beq_iff_eq]at this;rw[this]
  congr 1
  omega
theorem QT.Y{t q:Tok}(h:QT t q):(q.d=1↔t.d=1)/\(q.d=2↔t.d=2)/\(q.d=0↔t.d=0):=by
 rcases h.2 with⟨a,b,_⟩|⟨a,b,_⟩|⟨a,b,_⟩|⟨a,b,c,_⟩
 all_goals omega
theorem bLY(T:List Tok)(r:Rd)(k:Int):aN T r [k]=decide ((dD T r.b).d=k):=by
 unfold aN aQ;rw[Bool.eq_iff_iff];simp
theorem bS7{O:List Int}(h:(dD T r.b).d ∉ O):aN T r O=false:=by
 rw[Bool.eq_false_iff];intro a;exact h (List.contains_iff_mem.1 a)
theorem bUD{O:List Int}(h:(dD T r.b).d∈O):aN T r O=true:=List.contains_iff_mem.2 h
theorem bZ1{k:Nat}(a:3<=k):aQ [(k:Int)] 0=false:=by
 unfold aQ;rw[Bool.eq_false_iff];simp;omega
theorem bN6(e:Tw T Q)(d:Ro r st)(c:r.b < T.length){k:Nat}(b:3<=k)(a:k < 34):qat Q st (sp k)=aN T r [(k:Int)]:=by
 rw[bLY];have:=(e.tok r.b c).at_ b a;unfold qat;rw[<-d.i];exact this
theorem bV6(g:Tw T Q)(f:Ro r st)(e:r.b < T.length){all:ByteArray}{O:List Int}(d:(List.range 34).all (fun k=>decide (k < 3)||(inQ (sp k) all==aQ O k))=true)(a:aQ O 0=false)(b:aQ O 1=false)(c:aQ O 2=false):bNR Q st all=aN T r O:=by
 have:=(g.tok r.b e).any_ d a b c;unfold bNR aN;rw[<-f.i];exact this
theorem bTI{O:List Int}(h:aN T r O=true)(a:aQ O 0=false):(dD T r.b).d≠0:=fun e=>by
 unfold aN at h;rw[e,a]at h;cases h
theorem bMH(d:Tw T Q)(a:Ro r st)(c:r.b < T.length){O:List Int}(h:aN T r O=true)(b:aQ O 0=false):Ro (r.take T O) (bKV Q st)/\(r.take T O).b=r.b+1/\cN T r O=dD T r.b/\r.b+1 < T.length:=by
 have f:=bTI h b
 have g:(dD Q st.i).d≠0:=by
  rw[<-a.i];exact fun e=>f ((d.tok r.b c).Y.2.2.1 e)
 unfold Rd.take cN bKV;rw[if_pos h,if_pos h,if_pos g];exact⟨⟨a.c,a.d,by show r.b+1=st.i+1;rw[a.i],a.o,a.lo,a.hi⟩,rfl,rfl,aAP d.ends c h b⟩
theorem bN7(c:Tw T Q)(a:Ro r st)(b:r.b < T.length){O:List Int}(h:aN T r O=false):Rf (r.take T O) (bLH Q st):=by
 unfold Rd.take bLH Rd.fail;rw[if_neg (by simp[h]),if_pos a.c,if_pos a.d];refine⟨Od,rfl,?_⟩;show(dD Q st.i).e=(dD T r.b).e;rw[<-a.i];exact(c.tok r.b b).1
theorem bR3(n:Nat)(c p:Int)(h:r.a≠0):(r.fail n c p).a=r.a/\(r.fail n c p).e=r.e:=by
 unfold Rd.fail;rw[if_neg h];exact⟨rfl,rfl⟩
theorem bLN(O:List Int)(h:r.a≠0):(r.take T O).a=r.a/\(r.take T O).e=r.e:=by
 unfold Rd.take
 split
 ·exact⟨rfl,rfl⟩
 ·exact bR3 _ _ _ h
theorem bNS(O:List Int)(_:r.a≠0):(r.C T O).a=r.a/\(r.C T O).e=r.e:=by
 unfold Rd.C
 split<;>exact⟨rfl,rfl⟩
theorem bPO(n:Nat)(p:Int)(h:r.a≠0):(r.M n p).a=r.a/\(r.M n p).e=r.e:=by
 unfold Rd.M
 split
 ·exact bR3 (r:=⟨r.b,r.c+1,r.a,r.e⟩) _ _ _ h
 ·exact⟨rfl,rfl⟩
theorem bND(O:List Int)(h:r.a≠0):(r.B T O).a=r.a/\(r.B T O).e=r.e:=by
 obtain⟨a,b⟩:=bLN (T:=T) O h;obtain⟨c,d⟩:=bPO (r:=r.take T O) T.length (cN T r O).e (by rw[a];exact h);exact⟨c.t a,d.t b⟩
theorem bMU(k:Int)(h:r.a≠0):(r.H T k).a=r.a/\(r.H T k).e=r.e:=bLN [k] h
theorem Rf.to{b:Rd}{st':QS}(h:Rf r st)(a:b.a=r.a/\b.e=r.e)(c:st'.a=st.a/\st'.e=st.e):Rf b st':=
 ⟨by rw[a.1];exact h.c,by rw[a.1,c.1];exact h.d,by rw[a.2,c.2];exact h.p⟩
theorem Rf.gr{a:Rd}{st':QS}{n:Nat}(h:Rf r st)(b:a.a=r.a/\a.e=r.e)(c:Gr st st' n):Rf a st':=h.to b (c.stick (by rw[h.d];exact h.c))
theorem bQT(c:Tw T Q)(a:Rl r st)(b:r.b < T.length){k:Nat}(d:3<=k)(e:k < 34):Rl (r.take T [(k:Int)]) (bL1 Q (sp k) st):=by
 rcases a with a|a
 ·have f:=bN6 c a b d e;unfold bL1;rw[if_neg (by simp[a.d]),f];cases hs:aN T r [(k:Int)]
  ·exact .r (by simpa using bN7 c a b hs)
  ·exact .l (by simpa using(bMH c a b hs (bZ1 d)).1)
 ·exact .r (a.gr (bLN _ a.c) (Gr.must Q _ st))
theorem bOP(g:Tw T Q)(a:Rl r st)(d:r.b < T.length){k:Int}(j:k=1\/k=2):Rl (r.take T [k]) (bL6 Q k st)/\((r.take T [k]).a=0->cN T r [k]=dD T r.b/\bL9 Q k st=dD Q st.i/\QT (dD T r.b) (dD Q st.i)/\(dD T r.b).d=k/\(r.take T [k]).b=r.b+1):=by
 rcases a with a|a
 ·have f:=g.tok r.b d
  have i:(dD Q st.i).d=k↔(dD T r.b).d=k:=by
   rw[<-a.i];rcases j with rfl|rfl
   ·exact f.Y.1
   ·exact f.Y.2.1
  unfold bL6 bL9;cases hs:aN T r [k]
  ·have b: ¬(dD T r.b).d=k:=by rw[bLY]at hs;exact of_decide_eq_false hs
   have c:(dD Q st.i).d≠k:=fun e=>b (i.1 e);have:=bN7 g a d hs;rw[if_pos c];exact⟨.r this,fun h=>absurd h this.c⟩
  ·have b:(dD T r.b).d=k:=by rw[bLY]at hs;exact of_decide_eq_true hs
   have c: ¬(dD Q st.i).d≠k:=fun e=>e (i.2 b);obtain⟨l,n,o,_⟩:=bMH g a d hs (by rcases j with rfl|rfl<;>decide);rw[if_neg c,if_neg c];exact⟨.l l,fun _=>⟨o,rfl,a.i ▸ f,b,n⟩⟩
 ·exact⟨.r (a.gr (bLN _ a.c) (Gr.knd Q k st)),fun h=>absurd ((bLN (T:=T) [k] a.c).1 ▸ h) a.c⟩
theorem kE{v:Int}(h:-100<=v/\v<=2000000000):wrap64 v=v:=by unfold wrap64;omega
theorem bPW(e:Tw T Q)(a:Rl r st)(d:r.b < T.length){k:Nat}(n:3<=k)(t:k < 34):Rl (r.B T [(k:Int)]) (bKW Q (sp k) st)/\((r.B T [(k:Int)]).a=0->(r.B T [(k:Int)]).c=r.c+1/\r.c+1<=10):=by
 rcases a with a|a
 ·have j:=bN6 e a d n t;have x:=e.tok r.b d;have P:=a.lo;have J:=a.hi;have q:wrap64 (st.op+1)=r.c+1:=by rw[<-a.o];exact kE Oa
  unfold bKW Rd.B Rd.M;rw[j,q];cases hs:aN T r [(k:Int)]
  ·have b:=bN7 e a d hs;have g:=bPO (r:=r.take T [(k:Int)]) T.length (cN T r [(k:Int)]).e b.c;unfold Rd.M at g
   have v:Rf (r.take T [(k:Int)]) (bL1 Q (sp k) {st with op:=r.c+1}):=by
    unfold bL1;rw[if_neg (by simp[a.d])];have:qat Q {st with op:=r.c+1} (sp k)=false:=j.t hs;rw[this];exact⟨b.c,by have:=b.d;simpa[bLH,a.d]using this,by have:=b.p;simpa[bLH,a.d]using this⟩
   rw[if_neg (c:=false=true/\st.a=0/\st.op=10) Od];exact⟨.r (v.to g ⟨rfl,rfl⟩),fun h=>absurd (g.1 ▸ h) b.c⟩
  ·obtain⟨f,y,p,z⟩:=bMH e a d hs (bZ1 n);have o:(r.take T [(k:Int)]).c=r.c:=by unfold Rd.take;rw[if_pos hs];rfl
   rw[o]
   by_cases i:10 < r.c+1
   ·rw[if_pos i,if_pos ⟨rfl,a.d,by rw[<-a.o];omega⟩];have u:Rd.fail T.length ⟨(r.take T [(k:Int)]).b,r.c+1,(r.take T [(k:Int)]).a,(r.take T [(k:Int)]).e⟩ 6 (cN T r [(k:Int)]).e=⟨T.length - 1,r.c+1,6,(cN T r [(k:Int)]).e⟩:=by unfold Rd.fail;rw[if_pos f.c]
    rw[u];refine⟨.r ?_,fun h=>by simp at h⟩;unfold bL1;rw[if_pos Od];refine⟨Od,rfl,?_⟩;show(dD Q st.i).e=(cN T r [(k:Int)]).e;rw[p,<-a.i];exact x.1
   ·rw[if_neg i,if_neg (fun h=>i (by have:=h.2.2;rw[<-a.o]at this;omega))];refine⟨.l ?_,fun _=>⟨rfl,Oa⟩⟩;have:qat Q {st with op:=r.c+1} (sp k)=true:=j.t hs;unfold bL1;rw[if_neg (by simp[a.d]),if_pos this];refine⟨f.c,?_,?_,?_,by show 0<=r.c+1;omega,by show r.c+1<=10;omega⟩
    ·unfold bKV;split<;>exact a.d
    ·have:=f.i;unfold bKV at this ⊢
     by_cases l:(dD Q st.i).d≠0
     ·rw[if_pos l]at this ⊢;exact this
     ·rw[if_neg l]at this ⊢;exact this
    ·unfold bKV;split<;>rfl
 ·exact⟨.r (a.gr (bND _ a.c) (Gr.opn Q _ st)),fun h=>absurd ((bND (T:=T) [(k:Int)] a.c).1 ▸ h) a.c⟩
theorem bPG(e:Tw T Q)(a:Rl r st)(c:r.b < T.length)(j:r.a=0->1<=r.c){k:Nat}(i:3<=k)(n:k < 34):Rl (r.H T (k:Int)) (bL0 Q (sp k) st):=by
 rcases a with a|a
 ·have u:=j a.c;have t:=a.hi;have l:wrap64 (st.op - 1)=r.c - 1:=by rw[<-a.o];exact kE Oa
  have h:=bN6 e a c i n;unfold bL0 Rd.H bL1;rw[l,if_neg (by simp[a.d])];cases hs:aN T r [(k:Int)]
  ·have d:=bN7 e a c hs;have:qat Q {st with op:=r.c - 1} (sp k)=false:=h.t hs;rw[this];exact .r ⟨d.c,by have:=d.d;simpa[bLH,a.d]using this,by have:=d.p;simpa[bLH,a.d]using this⟩
  ·obtain⟨f,o,p,q⟩:=bMH e a c hs (bZ1 i);have b:(r.take T [(k:Int)]).c=r.c:=by unfold Rd.take;rw[if_pos hs];rfl
   have:qat Q {st with op:=r.c - 1} (sp k)=true:=h.t hs;rw[if_pos this];refine .l ⟨f.c,?_,?_,?_,by show 0<=_ - 1;rw[b];omega,by show _ - 1<=10;rw[b];omega⟩
   ·unfold bKV;split<;>exact a.d
   ·have:=f.i;unfold bKV at this ⊢
    by_cases g:(dD Q st.i).d≠0
    ·rw[if_pos g]at this ⊢;exact this
    ·rw[if_neg g]at this ⊢;exact this
   ·show(r.take T [(k:Int)]).c - 1=_;rw[b];unfold bKV
    split<;>rfl
 ·exact .r (a.gr (bMU _ a.c) (Gr.H Q _ st))
end
end Go.Proofs.YtikffmloeifkpaaGreatDoor
