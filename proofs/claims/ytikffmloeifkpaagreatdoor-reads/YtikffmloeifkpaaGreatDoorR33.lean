/- Contracts. -/
import Derived.Test.YtikffmloeifkpaaGreatDoorR32
set_option maxHeartbeats 16000000
set_option maxRecDepth 100000
namespace Go.Proofs.YtikffmloeifkpaaGreatDoor
open Go.RowKit Go.Lib Go.Deep Go.ChangeMaps Go.MapKept Tryz
section
variable {H U:Nat} {L C:List NQ} {A F:List Int} {ns Z g:Nat} {Y D M B:Value} {V:List V3} {K:Int->Prop}
theorem bT2(m:Nok C L A F Z ns K)(n:L.length<=100000)(p:Z<=100000)(a b:Int)(op:ByteArray)(d:Bool)(w:World)(E:ExK L K a)(J:ExK L K b)(hw:FdW H U L A F ns Y D M B V w)(hs:StW Z d g w):
 Calls prog 112 #[Qd U,stA d g Z,Qc a,.string op,Qc b] w (bU5 Z w):=by
 obtain⟨s,h4⟩:∃ s,s=(w.alloc (stO d g Z)).alloc noO:=⟨_,rfl⟩
 have S:Below w.1.size w s:=by
  rw[h4];exact((Below.refl _ _).alloc Ol _).alloc (by rw[hsz];omega) _
 have kz:s.1.size=w.1.size+2:=by rw[h4];simp only[hsz]
 have q6:s.1[w.1.size]?=some (stO d g Z):=by
  rw[h4]
  repeat (first|rw[hal,if_neg (by simp only[hsz];omega)]|rw[hal,if_pos (by simp only[])])
 have a6:s.1[w.1.size+1]?=some noO:=by
  rw[h4]
  repeat (first|rw[hal,if_neg (by simp only[hsz];omega)]|rw[hal,if_pos (by simp only[hsz])])
 have HW:Hid (s=_):=h4;clear h4;go_enter func112,ntmps112
 go_upto_region 1 with fail
 rw[<-HW.o];have k0:w.1.size < s.1.size:=Oa
 obtain⟨s0,s1,_⟩:=bKX q6;clear HW;obtain⟨u0,u1,uf⟩:=bLG a6;cases d
 case true=>
  go_wp2;exact bodyPost_ret (v:=stA true g Z) (by simp[results,results112,go_sem,*]) rfl ⟨_,_,rfl,hs.below ((S.setCell (by show w.1.size<=w.1.size+1;omega) _).setCell (by show w.1.size<=w.1.size+1;omega) _),(S.setCell (by show w.1.size<=w.1.size+1;omega) _).setCell (by show w.1.size<=w.1.size+1;omega) _⟩
 clear u0 u1 uf;go_upto_region 4 with(go_at_call 174;refine(bQR m n p _ a _ (Nat.lt_succ_self _) E.1 E.2 (hw.below S) (hs.below S)).mono ?_;rintro e W ⟨x,rfl,hx,c⟩)
 obtain⟨O,R⟩:∃ O,O=W.alloc (rgO x):=⟨_,rfl⟩;have k1:=c.size;have T:O.1[w.1.size]?=some (stO false g Z):=by rw[R];exact(bLL c Oa).t q6
 have a9:O.1[w.1.size+1]?=some noO:=by rw[R];exact(bLL c Oa).t a6
 have b1:O.1[W.1.size]?=some (rgO x):=by rw[R];exact Qk W _
 have a1:Below w.1.size w O:=by rw[R];exact(S.t (c.mono S.size)).alloc Oa _
 have b3:O.1.size=W.1.size+1:=by rw[R];exact hsz _ _
 rw[<-R];clear R c S q6 a6 s0 s1;obtain⟨s0,s1,_⟩:=bKX T;go_upto_region 5 with(go_at_call 174;refine(bQR m n p _ b _ (Nat.lt_succ_self _) J.1 J.2 (hw.below a1) (hs.below a1)).mono ?_;rintro e N ⟨y,rfl,hy,c⟩)
 obtain⟨f,z⟩:∃ f,f=N.alloc (rgO y):=⟨_,rfl⟩;have h7:=c.size;have r6:f.1[w.1.size]?=some (stO false g Z):=by rw[z];exact(bLL c Oa).t T
 have a3:f.1[w.1.size+1]?=some noO:=by rw[z];exact(bLL c Oa).t a9
 have a7:f.1[W.1.size]?=some (rgO x):=by rw[z];exact(bLL c Oa).t b1
 have a8:f.1[N.1.size]?=some (rgO y):=by rw[z];exact Qk N _
 have a2:Below w.1.size w f:=by rw[z];exact(a1.t (c.mono a1.size)).alloc Oa _
 have b4:f.1.size=N.1.size+1:=by rw[z];exact hsz _ _
 rw[<-z];have b5:w.1.size+1 < W.1.size:=Oa
 have b6:W.1.size < N.1.size:=Oa
 have b7:N.1.size < f.1.size:=Oa
 clear z c a1 T a9 b1 s0 s1 kz b3 k1 h7 b4 k0;generalize W.1.size=P at*;generalize N.1.size=Q at*;obtain⟨s0,s1,_⟩:=bKX r6;obtain⟨x0,x1,_⟩:=bL4 a7;obtain⟨y0,y1,_⟩:=bL4 a8;have h3:=hs.below a2;have u:=hw.below a2;have h6:w.1.size+1 < f.1.size:=Oa
 have fin:∀ (W:World) (i:Bool) (j:Nat),StW Z i j W->Below f.1.size f W->StW Z i j ((W.setCell ⟨w.1.size+1,0,none⟩ (.bool i)).setCell ⟨w.1.size+1,1,none⟩ (Qe j Z Z))/\Below w.1.size w ((W.setCell ⟨w.1.size+1,0,none⟩ (.bool i)).setCell ⟨w.1.size+1,1,none⟩ (Qe j Z Z)):=fun W i j k c=>by
  have h9:=k.ne ((c.block _ h6).t a3);exact⟨k.move ((Om h9).t (Om h9)),((a2.t (c.mono a2.size)).setCell (by show w.1.size<=w.1.size+1;omega) _).setCell (by show w.1.size<=w.1.size+1;omega) _⟩
 obtain⟨u0,u1,uf⟩:=bLG a3;obtain⟨t1,b8⟩:∃ t,(op.toList==[60])=t:=⟨_,rfl⟩;cases t1
 case true=>
  go_wp2_with (go_at_call 175;refine(bR2 m n p a b _ _ E J u h3).mono ?_;rintro e W5 ⟨i,j,rfl,k,c⟩;obtain⟨hc,hf⟩:=bNB c)
  exact bodyPost_ret (v:=stA i j Z) (by simp[results,results112,go_sem,*]) rfl ⟨_,_,rfl,(fin _ _ _ k c).1,(fin _ _ _ k c).2⟩
 obtain⟨t2,b9⟩:∃ t,(op.toList==[60,61])=t:=⟨_,rfl⟩;cases t2
 case true=>
  go_wp2_with (go_at_call 175;refine(bR2 m n p a b _ _ E J u h3).mono ?_;rintro e W5 ⟨i,j,rfl,k,c⟩;obtain⟨hc,hf⟩:=bNB c)
  exact bodyPost_ret (v:=stA i j Z) (by simp[results,results112,go_sem,*]) rfl ⟨_,_,rfl,(fin _ _ _ k c).1,(fin _ _ _ k c).2⟩
 obtain⟨t3,c5⟩:∃ t,(op.toList==[62])=t:=⟨_,rfl⟩;cases t3
 case true=>
  go_wp2_with (go_at_call 175;refine(bR2 m n p b a _ _ J E u h3).mono ?_;rintro e W5 ⟨i,j,rfl,k,c⟩;obtain⟨hc,hf⟩:=bNB c)
  exact bodyPost_ret (v:=stA i j Z) (by simp[results,results112,go_sem,*]) rfl ⟨_,_,rfl,(fin _ _ _ k c).1,(fin _ _ _ k c).2⟩
 obtain⟨t4,c6⟩:∃ t,(op.toList==[62,61])=t:=⟨_,rfl⟩;cases t4
 case true=>
  go_wp2_with (go_at_call 175;refine(bR2 m n p b a _ _ J E u h3).mono ?_;rintro e W5 ⟨i,j,rfl,k,c⟩;obtain⟨hc,hf⟩:=bNB c)
  exact bodyPost_ret (v:=stA i j Z) (by simp[results,results112,go_sem,*]) rfl ⟨_,_,rfl,(fin _ _ _ k c).1,(fin _ _ _ k c).2⟩
 have X:∀ W:World,Below f.1.size f W->(W.cell? ⟨w.1.size,0,none⟩=some (.bool false)/\W.cell? ⟨w.1.size,1,none⟩=some (Qe g Z Z)/\W.cell? ⟨P,0,none⟩=some (Qc x.1)/\W.cell? ⟨P,1,none⟩=some (Qc x.2)/\W.cell? ⟨Q,0,none⟩=some (Qc y.1)/\W.cell? ⟨Q,1,none⟩=some (Qc y.2))/\W.cell? ⟨w.1.size+1,0,none⟩=some (.bool false)/\W.cell? ⟨w.1.size+1,1,none⟩=some (.slice none 0 0)/\∀ o,W.frozen? ⟨w.1.size+1,o,none⟩=false:=fun W c=>by
  obtain⟨m1,m2,_⟩:=bKX ((c.block _ Oa).t r6);obtain⟨m3,m4,_⟩:=bL4 ((c.block _ Oa).t a7);obtain⟨m5,m6,_⟩:=bL4 ((c.block _ Oa).t a8);exact⟨⟨m1,m2,m3,m4,m5,m6⟩,bLG ((c.block _ Oa).t a3)⟩
 have I:∀ b,b≠w.1.size+1->∀ o b2 v (W:World),((W.setCell ⟨w.1.size+1,0,none⟩ b2).setCell ⟨w.1.size+1,1,none⟩ v).cell? ⟨b,o,none⟩=W.cell? ⟨b,o,none⟩:=fun b h o b2 v W=>(bN0 h).t (bN0 h);have z6:w.1.size≠w.1.size+1:=Oa
 have a4:P≠w.1.size+1:=Oa
 have a5:Q≠w.1.size+1:=Oa
 have HX:Hid (I6 x.1/\I6 x.2):=by unfold Rk at hx;unfold Hid I6;omega
 have HY:Hid (I6 y.1/\I6 y.2):=by unfold Rk at hy;unfold Hid I6;omega
 clear r6 a3 a7 a8 u0 u1 uf hx hy hs;obtain⟨t5,c7⟩:∃ t,(op.toList==[61,61])=t:=⟨_,rfl⟩;cases t5
 case true=>
  go_upto_region 15 with fail
  go_region_held3 (fun l=>l.cell? ⟨w.1.size,0,none⟩=some (.bool false)/\l.cell? ⟨w.1.size,1,none⟩=some (Qe g Z Z)/\l.cell? ⟨P,0,none⟩=some (Qc x.1)/\l.cell? ⟨P,1,none⟩=some (Qc x.2)/\l.cell? ⟨Q,0,none⟩=some (Qc y.1)/\l.cell? ⟨Q,1,none⟩=some (Qc y.2))
   (first
     |exact G.o
     |exact S2.o
     |(refine⟨?_,?_,?_,?_,?_,?_⟩<;>assumption)
     |exact(let⟨p1,p2,p3,p4,p5,T⟩:=S2.o;⟨(I _ z6 _ _ _ _).t p1,(I _ z6 _ _ _ _).t p2,(I _ a4 _ _ _ _).t p3,(I _ a4 _ _ _ _).t p4,(I _ a5 _ _ _ _).t p5,(I _ a5 _ _ _ _).t T⟩)
     |go_keep)
   (first
     |(go_at_call 176;refine(bU2 m n p b d1 (_,_) HX.o _ J.1 (u.below q) h8).mono ?_;rintro e Wb ⟨i,j,rfl,h5,Bb⟩;have r:Below f.1.size f Wb:=q.t (Bb.mono q.size);have S2:Hid _:=(X Wb r).1;obtain⟨u0,u1,uf⟩:=(X Wb r).2)
     |(go_at_call 176;refine(bU2 m n p a false (_,_) HY.o _ E.1 (u.below ((Below.refl _ _).drew)) (h3.below ((Below.refl _ _).drew))).mono ?_;rintro e Wa ⟨d1,g1,rfl,h8,Ba⟩;have q:Below f.1.size f Wa:=((Below.refl _ _).drew).t Ba;have G:Hid _:=(X Wa q).1))
  go_wp2;exact bodyPost_ret (v:=stA i j Z) (by simp[results,results112,go_sem,*]) rfl ⟨_,_,rfl,(fin _ _ _ h5 r).1,(fin _ _ _ h5 r).2⟩
 go_upto_region 16 with fail
 go_region_held3 (fun l=>l.cell? ⟨w.1.size,0,none⟩=some (.bool false)/\l.cell? ⟨w.1.size,1,none⟩=some (Qe g Z Z)/\l.cell? ⟨P,0,none⟩=some (Qc x.1)/\l.cell? ⟨P,1,none⟩=some (Qc x.2)/\l.cell? ⟨Q,0,none⟩=some (Qc y.1)/\l.cell? ⟨Q,1,none⟩=some (Qc y.2))
  (first
    |exact G.o
    |exact S2.o
    |(refine⟨?_,?_,?_,?_,?_,?_⟩<;>assumption)
    |exact(let⟨p1,p2,p3,p4,p5,T⟩:=S2.o;⟨(I _ z6 _ _ _ _).t p1,(I _ z6 _ _ _ _).t p2,(I _ a4 _ _ _ _).t p3,(I _ a4 _ _ _ _).t p4,(I _ a5 _ _ _ _).t p5,(I _ a5 _ _ _ _).t T⟩)
    |go_keep)
  (first
    |(go_at_call 177;refine(bW1 m n p b d1 y x _ J.1 (u.below q) h8).mono ?_;rintro e Wb ⟨i,j,rfl,h5,Bb⟩;have r:Below f.1.size f Wb:=q.t (Bb.mono q.size);have S2:Hid _:=(X Wb r).1;obtain⟨u0,u1,uf⟩:=(X Wb r).2)
    |(go_at_call 177;refine(bW1 m n p a false x y _ E.1 (u.below ((Below.refl _ _).drew)) (h3.below ((Below.refl _ _).drew))).mono ?_;rintro e Wa ⟨d1,g1,rfl,h8,Ba⟩;have q:Below f.1.size f Wa:=((Below.refl _ _).drew).t Ba;have G:Hid _:=(X Wa q).1))
 go_wp2;exact bodyPost_ret (v:=stA i j Z) (by simp[results,results112,go_sem,*]) rfl ⟨_,_,rfl,(fin _ _ _ h5 r).1,(fin _ _ _ h5 r).2⟩
end
section
variable {Z g:Nat}
structure MtW(D B C Z:Nat)(w:World)(R:List (Int × Int))(w':World):Prop where
 p3:w'.1[w.1.size+1]?=some (stO false C Z)
 p4:w'.1[w.1.size+1+1]?=some noO
 p5:w'.1[D]?=some (stO false B Z)
 row:bOV B R w'
 other:StW Z false C w'
 len:R.length=Z
 rk:∀ r∈R,Rk r
 below:Below w.1.size w w'
 lt:w.1.size+3<=B
 ne:B < D
 old:C < w.1.size
section
variable {D B C i:Nat} {w w':World} {R:List (Int × Int)} {r:Int × Int} {a:Int}
theorem MtW.set0(h:MtW D B C Z w R w')(j:R[i]?=some r)(f:Rk (a,r.2)):MtW D B C Z w (R.set i (a,r.2)) (w'.setCell ⟨B,i*2,none⟩ (Qc a)):=by
 have c:=h.lt;have d:=h.ne;have e:=h.old;have b:∀ k,k≠B->∀ o u,(w'.setCell ⟨B,o,none⟩ u).1[k]?=w'.1[k]?:=(by grind[Below.heap_setCell]);exact⟨(b _ Oa _ _).t h.p3,(b _ Oa _ _).t h.p4,(b _ Oa _ _).t h.p5,h.row.set0 j a,h.other.move Qg,by rw[List.length_set];exact h.len,bXL h.rk f,h.below.setCell Qg _,c,d,e⟩
theorem MtW.set1(h:MtW D B C Z w R w')(j:R[i]?=some r)(f:Rk (r.1,a)):MtW D B C Z w (R.set i (r.1,a)) (w'.setCell ⟨B,i*2+1,none⟩ (Qc a)):=by
 have c:=h.lt;have d:=h.ne;have e:=h.old;have b:∀ k,k≠B->∀ o u,(w'.setCell ⟨B,o,none⟩ u).1[k]?=w'.1[k]?:=(by grind[Below.heap_setCell]);exact⟨(b _ Oa _ _).t h.p3,(b _ Oa _ _).t h.p4,(b _ Oa _ _).t h.p5,h.row.set1 j a,h.other.move Qg,by rw[List.length_set];exact h.len,bXL h.rk f,h.below.setCell Qg _,c,d,e⟩
theorem MtW.dr(h:MtW D B C Z w R w')(n:Nat):MtW D B C Z w R (w'.drewN n):=⟨h.p3,h.p4,h.p5,h.row,h.other.move rfl,h.len,h.rk,bM5 h.below n,h.lt,h.ne,h.old⟩
theorem MtW.cells(h:MtW D B C Z w R w')(hi:i < Z):∃ r q:Int × Int,R[i]?=some r/\Rk r/\Rk q/\(w'.cell? ⟨w.1.size+1,1,none⟩=some (Qe C Z Z)/\w'.cell? ⟨D,1,none⟩=some (Qe B Z Z))
 /\(w'.cell? ⟨C,i*2,none⟩=some (Qc q.1)/\w'.cell? ⟨C,i*2+1,none⟩=some (Qc q.2))/\(w'.cell? ⟨B,i*2,none⟩=some (Qc r.1)/\w'.cell? ⟨B,i*2+1,none⟩=some (Qc r.2)/\∀ o,w'.frozen? ⟨B,o,none⟩=false):=by
 have d:=h.len;obtain⟨r,b⟩:∃ r,R[i]?=some r:=Qh;obtain⟨q,e,f,c⟩:=h.other.get hi;exact⟨r,q,b,h.rk r Qg,c rfl,⟨(bKX h.p3).2.1,(bKX h.p5).2.1⟩,Qj,h.row.get b⟩
end
theorem bUU(hv:Z<=100000)(x f:Bool)(y C:Nat)(w:World)(ha:StW Z x y w)(P:StW Z f C w):
 Calls prog 237 #[stA x y Z,stA f C Z] w (bU5 Z w):=by
 obtain⟨h,m⟩:∃ h,h=((w.alloc (stO x y Z)).alloc (stO f C Z)).alloc noO:=⟨_,rfl⟩
 have n:Below w.1.size w h:=by
  rw[m]
  repeat (first|exact Below.refl _ _|refine Below.alloc ?_ (by first|(simp;done)|(simp;omega)) _)
 have kz:h.1.size=w.1.size+3:=by rw[m];simp only[hsz]
 have q2:h.1[w.1.size]?=some (stO x y Z):=by
  rw[m]
  repeat (first|rw[hal,if_neg (by simp only[hsz];omega)]|rw[hal,if_pos (by simp only[])])
 have X:h.1[w.1.size+1]?=some (stO f C Z):=by
  rw[m]
  repeat (first|rw[hal,if_neg (by simp only[hsz];omega)]|rw[hal,if_pos (by simp only[hsz])])
 have J:h.1[w.1.size+1+1]?=some noO:=by
  rw[m]
  repeat (first|rw[hal,if_neg (by simp only[hsz];omega)]|rw[hal,if_pos (by simp only[hsz])])
 have HW:Hid (h=_):=m;clear m;have Q:=P.lt;have a4:0<=(Z:Int):=Oa
 go_enter func237,ntmps237
 go_upto_region 1 with fail
 rw[<-HW.o];clear HW;have h9:=ha.below n;have h8:=P.below n;obtain⟨N,o,_⟩:=bKX q2;obtain⟨x0,t,_⟩:=bKX X;obtain⟨u0,u1,O⟩:=bLG J;have k4:w.1.size+1+1 < h.1.size:=Oa
 have fin:∀ (W:World) (u:Bool) (B:Nat),StW Z u B W->W.1[w.1.size+1+1]?=some noO->Below w.1.size w W->StW Z u B ((W.setCell ⟨w.1.size+1+1,0,none⟩ (.bool u)).setCell ⟨w.1.size+1+1,1,none⟩ (Qe B Z Z))/\Below w.1.size w ((W.setCell ⟨w.1.size+1+1,0,none⟩ (.bool u)).setCell ⟨w.1.size+1+1,1,none⟩ (Qe B Z Z)):=fun W u B j Q c=>by
  have h6:=j.ne Q;exact⟨j.move ((Om h6).t (Om h6)),(c.setCell (by show w.1.size<=w.1.size+1+1;omega) _).setCell (by show w.1.size<=w.1.size+1+1;omega) _⟩
 cases x
 case true=>
  go_wp2_with (go_at_call 233;refine(bPY f C Z _ h8 hv).mono ?_;rintro e s ⟨B,rfl,k6,j,c⟩;obtain⟨hc,hf⟩:=bNB c)
  have k:=fin s f B j ((c.block _ k4).t J) (n.t (c.mono n.size));exact bodyPost_ret (v:=stA f B Z) (by simp[results,results237,go_sem,*]) rfl ⟨_,_,rfl,k.1,k.2⟩
 go_upto_region 4 with(go_at_call 233;refine(bPY false y Z _ h9 hv).mono ?_;rintro e s ⟨B,rfl,k6,j,c⟩)
 obtain⟨d,l⟩:∃ d,d=s.alloc (stO false B Z):=⟨_,rfl⟩;have a2:=c.size;have S:d.1[w.1.size+1]?=some (stO f C Z):=by rw[l];exact(bLL c Oa).t X
 have I:d.1[w.1.size+1+1]?=some noO:=by rw[l];exact(bLL c Oa).t J
 have T:d.1[s.1.size]?=some (stO false B Z):=by rw[l];exact Qk s _
 have G:Below w.1.size w d:=by rw[l];exact(n.t (c.mono n.size)).alloc Oa _
 have k0:StW Z false B d:=by rw[l];exact j.below ((Below.refl _ _).alloc Ol _)
 have h7:StW Z f C d:=P.below G;have k5:=j.lt;rw[<-l];clear l c j q2 X J n h9 h8 N o x0 t u0 u1 O;generalize s.1.size=D at*;obtain⟨x0,t,_⟩:=bKX S;obtain⟨u0,u1,O⟩:=bLG I;obtain⟨N,o,_⟩:=bKX T;cases f
 case true=>
  have k:=fin d false B k0 I G;go_wp2;exact bodyPost_ret (v:=stA false B Z) (by simp[results,results237,go_sem,*]) rfl ⟨_,_,rfl,k.1,k.2⟩
 obtain⟨R,k1,h3,k2⟩:=k0;have b:MtW D B C Z w R d:=⟨S,I,T,h3,h7,k1,k2 rfl,G,Oa,k5,Q⟩;clear S I T G h7 k1 h3 k2;go_wp2;clear N o x0 t u0 u1 O;go_loopg [6] (Z+1) (fun a1 v6 wr=>∃ (i:Nat) (R:List (Int × Int)),v6= Qc i/\i+a1=Z+1/\MtW D B C Z w R wr)
 case atStart=>exact⟨0,R,rfl,Oa,b⟩
 case round=>
  clear b;obtain⟨i,R,rfl,a5,b⟩:=hrel;have o:=(bKX b.p5).2.1
  by_cases hi:i < Z
  ·have t0:decide ((i:Int) < (Z:Int))=true:=by simp;omega
   have a3:0<=(i:Int)/\(i:Int) < (Z:Int):=Oa
   obtain⟨n2,rfl⟩:=Oj gk;have a6:IntKind.i64.wrap ((i:Int)+1)=(i:Int)+1:=IntWalk.i64_in _ Oa;have p:Hid (MtW D B C Z w R wr):=b;obtain⟨r,q,E,h4,h5,⟨t,_⟩,⟨y0,y1⟩,r0,r1,rf⟩:=b.cells hi;clear b;obtain⟨bt,z⟩:∃ bt,Hid (bt=decide (q.1 < r.1)):=⟨_,rfl⟩;have tb:decide (q.1 < r.1)=bt:=z.o.symm;go_upto_region 9 with fail
   go_quiet (fail)
   go_upto_if 35 with fail
   go_cut []from 16 to 70 (fun w'=>∃ R,MtW D B C Z w R w')
   case first=>
    cases bt
    ·go_wp2;go_meet;exact⟨_,p.o.dr _⟩
    ·have k3:q.1 < r.1:=of_decide_eq_true tb;go_upto_region 10 with fail
     go_region
     all_goals go_wp2
     all_goals go_meet
     all_goals exact⟨_,(p.o.dr _).set0 E (by unfold Rk at*;dsimp only;omega)⟩
   case rest=>
    clear o t y0 y1 r0 r1 rf p z tb E h4 h5;obtain⟨R,b⟩:=hcut;have p:Hid (MtW D B C Z w R wc):=b;obtain⟨r,q,E,h4,h5,⟨t,o⟩,⟨y0,y1⟩,r0,r1,rf⟩:=b.cells hi;clear b;generalize wc=W6 at*;obtain⟨bt,z⟩:∃ bt,Hid (bt=decide (r.2 < q.2)):=⟨_,rfl⟩;have tb:decide (q.2 > r.2)=bt:=z.o.symm;go_upto_region 11 with fail
    go_quiet (fail)
    cases bt
    ·go_wp2;go_roundg n2
     case rel=>exact⟨i+1,R,Od,Oa,p.o.dr _⟩
     case measure=>omega
    ·have k3:r.2 < q.2:=of_decide_eq_true z.o.symm;go_upto_region 12 with fail
     go_region
     all_goals go_wp2
     all_goals go_roundg n2
     all_goals first
      |omega
      |exact⟨i+1,_,Od,Oa,(p.o.dr _).set1 E (by unfold Rk at*;dsimp only;omega)⟩
  ·have t0:decide ((i:Int) < (Z:Int))=false:=by simp;omega
   have k:=fin wr false B (b.row.st b.len fun _=>b.rk) b.p4 b.below;obtain⟨N,o,_⟩:=bKX b.p5;obtain⟨u0,u1,O⟩:=bLG b.p4;clear b;go_wp2;exact bodyPost_ret (v:=stA false B Z) (by simp[results,results237,go_sem,*]) rfl ⟨_,_,rfl,k.1,k.2⟩
end
section
variable {H U:Nat} {L C:List NQ} {A F:List Int} {ns Z g:Nat} {Y D M B:Value} {V:List V3} {K:Int->Prop} {w:World}
theorem FdW.f(h:FdW H U L A F ns Y D M B V w){i:Nat}(hi:i < ns):∃ (g J:Nat) (P:Value),B= Qe g ns J/\w.cell? ⟨U,5,none⟩=some (Qe g ns J)/\w.cell? ⟨g,i*3+2,none⟩=some P/\(∀ o,w.frozen? ⟨g,o,none⟩=false)
 /\∀ v,FdW H U L A F ns Y D M B V (w.setCell ⟨g,i*3+2,none⟩ v)/\Fd B w (w.setCell ⟨g,i*3+2,none⟩ v):=by
 obtain⟨X,W,G⟩:=h.prog;obtain⟨b,O⟩:=h.d;obtain⟨S,I⟩:=O;rcases I with⟨_,Q⟩|⟨g,J,f,rfl,y,j,s,u,hsz,q⟩
 ·omega
 have off:∀ {k:Nat} {p:Array Value} {t:TypeId},w.1[k]?=some (.cells p t (0,0))->t≠55->∀ o v,(w.setCell ⟨g,o,none⟩ v).1[k]?=w.1[k]?:=(by grind[Below.heap_setCell,bEF])
 have d:∀ {n m:Nat} {e:TypeId} {z:Value} {b:List Value},w.ownsRow H e m z n b->e≠55->∀ o v,(w.setCell ⟨g,o,none⟩ v).ownsRow H e m z n b:=fun l T o v=>cD l (fun k E=>by
  obtain⟨⟨c,x⟩,_⟩:=bEH l E
  grind)
 refine⟨g,J,f[i*3+2]'Oa,rfl,Og G rfl,by rw[cell_of_row _ _ _ _ _ _ j];simp,(by grind[World.frozen?]),fun v=>⟨⟨Qg,d h.nodes Ob _ _,d h.arrs Ob _ _,d h.fns Ob _ _,⟨b.set (i*3+2) v,?_⟩,h.c.move (fun k N=>by
  obtain⟨⟨c,x⟩,_⟩:=h.c.typ N
  grind)⟩,⟨rfl,rfl,rfl,Od,(by grind[Value.ownBlock,Below.heap_setCell])⟩⟩⟩
 refine⟨Qh,.r ⟨g,J,f.setIfInBounds (i*3+2) v,rfl,y,aM _ j,s,u,Qh,?_⟩⟩;rw[Array.toList_setIfInBounds,List.take_set,q]
theorem FdW.drew(h:FdW H U L A F ns Y D M B V w)(n:Nat):FdW H U L A F ns Y D M B V (w.drewN n):=h.below (bM5 (Below.refl _ _) n)
def bM4(H U:Nat)(L:List NQ)(A F:List Int)(ns:Nat)(Y D M B:Value)(V:List V3)(w w':World):Prop:=FdW H U L A F ns Y D M B V w'/\Fd B w w'
theorem bPR(j:Int)(I:j < c)(_:c<=1000000)(d yes:Bool)(q:FdW H U L A F c Y D M B V w):
 Calls prog 235 #[Qd U,stA d g Z,Qc j,.bool yes] w fun e x=>e= .returned (.tuple #[])/\bM4 H U L A F c Y D M B V w x:=by
 obtain⟨b,h⟩:∃ b,b=w.alloc (stO d g Z):=⟨_,rfl⟩
 have l:Below w.1.size w b:=by
  rw[h];exact(Below.refl _ _).alloc Ol _
 have t:b.1[w.1.size]?=some (stO d g Z):=by
  rw[h];exact Qk w _
 have o:Hid (b=_):=h;clear h;go_enter func235,ntmps235
 go_upto_region 1 with fail
 rw[<-o.o];clear o;have k:=q.below l;obtain⟨N,_⟩:=bKX t;have m:Hid (Fd B w b):=Fd.of l
 by_cases s:0<=j
 ·obtain⟨i,rfl⟩:=Int.eq_ofNat_of_zero_le s;have u:decide ((i:Int)≥0)=true:=Od
  obtain⟨f,J,O,rfl,y,z,E,p⟩:=k.f (i:=i) Oa;have G:0<=(i:Int)/\(i:Int) < (c:Int):=Oa
  have n:Hid (∀ v,FdW H U L A F c Y D M (Qe f c J) V (b.setCell ⟨f,i*3+2,none⟩ v)/\Fd (Qe f c J) b (b.setCell ⟨f,i*3+2,none⟩ v)):=p;clear p k q l;cases d<;>cases yes
  all_goals
   go_upto_region 2 with fail
   go_region
  all_goals go_wp2
  all_goals go_end0
  all_goals exact⟨rfl,(n.o _).1.below (Below.refl _ _).drew,m.o.t ((n.o _).2.t (Fd.of (Below.refl _ _).drew))⟩
 ·have u:decide (j≥0)=false:=by simp;omega
  go_wp2;go_end0
  exact⟨rfl,k,m.o⟩
theorem bWZ(op:ByteArray)(a b:Int × Int)(w:World):Calls prog 332 #[.string op,rgA a,rgA b] w fun e x=>∃ y:Bool,e= .returned (.bool y)/\Below w.1.size w x:=by
 obtain⟨c,f⟩:∃ c,c=(w.alloc (rgO a)).alloc (rgO b):=⟨_,rfl⟩
 have d:Below w.1.size w c:=by
  rw[f];exact((Below.refl _ _).alloc Ol _).alloc (by rw[hsz];omega) _
 have k:c.1[w.1.size]?=some (rgO a):=by
  rw[f]
  repeat (first|rw[hal,if_neg (by simp only[hsz];omega)]|rw[hal,if_pos (by simp only[])])
 have l:c.1[w.1.size+1]?=some (rgO b):=by
  rw[f]
  repeat (first|rw[hal,if_neg (by simp only[hsz];omega)]|rw[hal,if_pos (by simp only[hsz])])
 have j:Hid (c=_):=f;clear f;go_enter func332,ntmps332
 go_upto_region 1 with fail
 rw[<-j.o];clear j;obtain⟨a0,z,_⟩:=bL4 k;obtain⟨b0,E,_⟩:=bL4 l;clear k l;obtain⟨p,J⟩:∃ t,(op.toList==[60])=t:=⟨_,rfl⟩;cases p
 case true=>
  go_wp2;go_ret;exact⟨_,rfl,d⟩
 obtain⟨q,N⟩:∃ t,(op.toList==[60,61])=t:=⟨_,rfl⟩;cases q
 case true=>
  go_wp2;go_ret;exact⟨_,rfl,d⟩
 obtain⟨s,O⟩:∃ t,(op.toList==[62])=t:=⟨_,rfl⟩;cases s
 case true=>
  go_wp2;go_ret;exact⟨_,rfl,d⟩
 obtain⟨u,P⟩:∃ t,(op.toList==[62,61])=t:=⟨_,rfl⟩;cases u
 case true=>
  go_wp2;go_ret;exact⟨_,rfl,d⟩
 obtain⟨v,Q⟩:∃ t,(op.toList==[61,61])=t:=⟨_,rfl⟩;cases v
 case true=>
  obtain⟨h,o⟩:∃ t,(a.1==a.2)=t:=⟨_,rfl⟩;obtain⟨m,G⟩:∃ t,(b.1==b.2)=t:=⟨_,rfl⟩;obtain⟨n,I⟩:∃ t,(a.1==b.1)=t:=⟨_,rfl⟩;cases h<;>cases m<;>cases n
  all_goals
   go_wp2;go_ret;exact⟨_,rfl,d⟩
 obtain⟨h,o⟩:∃ t,decide (a.2 < b.1)=t:=⟨_,rfl⟩;cases h
 all_goals
  go_wp2;go_ret;exact⟨_,rfl,d⟩
end
section
variable {H U:Nat} {L C:List NQ} {A F:List Int} {ns Z g:Nat} {Y D M B:Value} {V:List V3} {K:Int->Prop} {w:World}
theorem WfK.kid{i:Int}{n:NQ}(h:WfK L K i n):∀ y∈n.c,K y/\y < i:=by
 rcases h with⟨_,h⟩|⟨_,h⟩|⟨_,h⟩|⟨_,y,h,f⟩|⟨_,y,z,h,f,j⟩|⟨_,y,z,h,f,j⟩|⟨_,c,b,r,h,f,j,l⟩
 ·simp[*]
 ·exact fun y k=>⟨(h y k).1,(h y k).2.1⟩
 ·exact fun y k=>⟨(h y k).1,(h y k).2.1⟩
 ·intro x d;rw[h]at d;rw[List.mem_singleton.1 d];exact⟨f.1,f.2.1⟩
 ·intro x d;rw[h]at d;rcases List.mem_cons.1 d with rfl|d
  ·exact⟨f.1,f.2.1⟩
  ·rw[List.mem_singleton.1 d];exact⟨j.1,j.2.1⟩
 ·intro x d;rw[h]at d;rcases List.mem_cons.1 d with rfl|d
  ·exact⟨f.1,f.2.1⟩
  ·rw[List.mem_singleton.1 d];exact⟨j.1,j.2.1⟩
 ·intro x d;rw[h]at d;rcases List.mem_cons.1 d with rfl|d
  ·exact⟨f.1,f.2.1⟩
  rcases List.mem_cons.1 d with rfl|d
  ·exact⟨j.1,j.2.1⟩
  rcases l with l|⟨_,e,l,m⟩
  ·grind
  ·rw[l]at d;rw[List.mem_singleton.1 d];exact⟨m.1,m.2.1⟩
theorem bSZ{w:World}{e:TypeId}{b n:Nat}{v:Value}{c:List Value}(h:w.ownsRow H e b v n c):n<=maxLen:=by
 rcases h.2 with⟨_,h⟩|⟨_,J,d,_,_,_,f,j,_⟩
 ·omega
 ·omega
def aIC(w:World):Ending->World->Prop:=fun e w'=>∃ b:Bool,e= .returned (.bool b)/\Below w.1.size w w'
theorem bXF(x:Nok C L A F Z ns K)(hZ:L.length<=100000)(v:Int):∀ (n:Nat) (y:Int) (w:World),y.toNat < n->K y->FdW H U L A F ns Y D M B V w->
 Calls prog 296 #[Qd U,Qc y,Qc v] w (aIC w):=by
 intro n
 induction n with
 |zero=>intro y w h;omega
 |succ n ih=>
  intro y w hn hk z;obtain⟨c,ha,P,_⟩:=x y hk;obtain⟨a1,gr,a8,k,c1,m,c2,o,c3,rfl,b3,rfl,q,g0,e0,e1,e2,e3,e4,e5,e6,e7,e8,e9,a3⟩:=z.Q ha;have N:=P.kid;have k1:=bSZ q.k;have a9:0<=(a1:Int)/\(a1:Int) < (L.length:Int):=Oa
  have X:=Qp w _ g0;have T:=Qp w _ e0;dsimp only at X T;obtain⟨j,l⟩:∃ j,j=w.alloc (ndO c k c1 m c2 o c3):=⟨_,rfl⟩
  have d:Below w.1.size w j:=by
   rw[l];exact(Below.refl _ _).alloc Ol _
  have f:j.1[w.1.size]?=some (bMB c k c1 m c2 o c3):=by
   rw[l];exact Qk w _
  have J:Hid (j=_):=l;clear l;go_enter func296,ntmps296
  go_upto_region 2 with fail
  rw[<-J.o];clear J g0 e0 e1 e2 e3 e4 e5 e6 e7 e8 e9 a3 X T;have l0:j.cell? ⟨w.1.size,0,none⟩=some (Qc c.d):=Og f rfl
  have l9:j.cell? ⟨w.1.size,9,none⟩=some (Qc c.ref):=Og f rfl
  go_cut [30]from 17 to 46 (fun a6 w'=>∃ t:Bool,a6= .bool t/\j=w')
  case first=>
   obtain⟨E,b5⟩:∃ E,(c.d==12)=E:=⟨_,rfl⟩;obtain⟨G,b6⟩:∃ G,(c.d==13)=G:=⟨_,rfl⟩;obtain⟨I,b7⟩:∃ I,(c.ref==v)=I:=⟨_,rfl⟩;clear ih z x N P q f d;cases E<;>cases G<;>cases I
   all_goals
    go_wp2;go_meet;exact⟨_,rfl,rfl⟩
  case rest=>
   obtain⟨t,rfl,rfl⟩:=hcut;clear l0 l9;cases t
   case true=>
    go_wp2;go_ret;exact⟨_,rfl,d⟩
   go_wp2;go_loopg [8] (c.c.length+1) (fun n v8 wr=>∃ i:Nat,v8= Qc i/\i+n=c.c.length+1/\Below w.1.size w wr/\wr.1[w.1.size]?=some (bMB c k c1 m c2 o c3))
   case atStart=>exact⟨0,rfl,Oa,d,f⟩
   case round=>
    clear d f;obtain⟨i,rfl,b2,d,f⟩:=hrel;have l5:wr.cell? ⟨w.1.size,5,none⟩=some (.slice k c.c.length c1):=Og f rfl
    by_cases hi:i < c.c.length
    ·have t0:decide ((i:Int) < (c.c.length:Int))=true:=by simp;omega
     obtain⟨a4,rfl⟩:=Oj gk;have b1:0<=(i:Int)/\(i:Int) < (c.c.length:Int):=Oa
     have b8:IntKind.i64.wrap ((i:Int)+1)=(i:Int)+1:=IntWalk.i64_in _ (by unfold maxLen at k1;omega);obtain⟨y,hy⟩:∃ y,c.c[i]?=some y:=⟨c.c[i],List.getElem?_eq_getElem _⟩;obtain⟨g6,a7,Q,s,k0⟩:=bNN q hy;simp only[Value.slice.injEq]at Q;obtain⟨rfl,-,rfl⟩:=Q;have s:=(d.cell (p:=⟨g6,i,none⟩) k0).t s;obtain⟨S,b4⟩:=N y (Qr hy);obtain⟨_,O,_⟩:=x y S;have O:=O.1;go_upto_region 8 with(go_at_call 296;refine(ih y _ Oa S (z.below d)).mono ?_;rintro e W ⟨b,rfl,u⟩)
     have a2:=d.t (u.mono d.size);have a5:=(u.block _ (Oo f)).t f;clear l5 s f d u;cases b
     ·go_wp2;go_roundg a4
      case rel=>exact⟨i+1,Od,Oa,a2,a5⟩
      case measure=>omega
     ·go_wp2;go_ret;exact⟨_,rfl,a2⟩
    ·have t0:decide ((i:Int) < (c.c.length:Int))=false:=by simp;omega
     go_wp2;go_ret;exact⟨_,rfl,d⟩
def bZL(w:World):Ending->World->Prop:=fun e w'=>∃ x:ByteArray,e= .returned (.string x)/\Below w.1.size w w'
theorem bUR(op:ByteArray)(w:World):Calls prog 295 #[.string op] w (bZL w):=by
 obtain⟨b,c⟩:∃ b,b=(w.alloc (Qf #[.string ⟨#[60]⟩,.string ⟨#[60,61]⟩,.string ⟨#[62]⟩,.string ⟨#[62,61]⟩,.string ⟨#[61,61]⟩,.string ⟨#[33,61]⟩] 9)).alloc (Qf #[.string ⟨#[62,61]⟩,.string ⟨#[62]⟩,.string ⟨#[60,61]⟩,.string ⟨#[60]⟩,.string ⟨#[33,61]⟩,.string ⟨#[61,61]⟩] 9):=⟨_,rfl⟩
 have e:Below w.1.size w b:=by
  rw[c];exact((Below.refl _ _).alloc Ol _).alloc (by rw[hsz];omega) _
 have u:b.1.size=w.1.size+2:=by rw[c];simp only[hsz]
 have six:∀ i:Nat,i < 6->∃ x y:ByteArray,b.cell? ⟨w.1.size,i,none⟩=some (.string x)/\b.cell? ⟨w.1.size+1,i,none⟩=some (.string y):=fun i hi=>by
  have f:b.1[w.1.size]?=some (Qf #[.string ⟨#[60]⟩,.string ⟨#[60,61]⟩,.string ⟨#[62]⟩,.string ⟨#[62,61]⟩,.string ⟨#[61,61]⟩,.string ⟨#[33,61]⟩] 9):=by
   rw[c]
   repeat (first|rw[hal,if_neg (by simp only[hsz];omega)]|rw[hal,if_pos (by simp only[])])
  have h:b.1[w.1.size+1]?=some (Qf #[.string ⟨#[62,61]⟩,.string ⟨#[62]⟩,.string ⟨#[60,61]⟩,.string ⟨#[60]⟩,.string ⟨#[33,61]⟩,.string ⟨#[61,61]⟩] 9):=by
   rw[c]
   repeat (first|rw[hal,if_neg (by simp only[hsz];omega)]|rw[hal,if_pos (by simp only[hsz])])
  rw[cell_of_row _ _ _ _ _ _ f,cell_of_row _ _ _ _ _ _ h];have:i=0\/i=1\/i=2\/i=3\/i=4\/i=5:=Oa
  rcases this with rfl|rfl|rfl|rfl|rfl|rfl
  all_goals exact⟨_,_,rfl,rfl⟩
 have d:Hid (b=_):=c;clear c;go_enter func295,ntmps295
 go_upto_region 3 with fail
 rw[<-d.o];clear d;go_wp2;go_loopg [5] 7 (fun n v wr=>∃ i:Nat,v= Qc i/\i+n=7/\b=wr)
 case atStart=>exact⟨0,rfl,Oa,rfl⟩
 case round=>
  obtain⟨i,rfl,l,rfl⟩:=hrel
  by_cases hi:i < 6
  ·obtain⟨x,y,q,s⟩:=six i hi;have j:decide ((i:Int) < 6)=true:=by simp;omega
   obtain⟨m,rfl⟩:=Oj gk;have k:0<=(i:Int)/\(i:Int) < 6:=Oa
   have p:IntKind.i64.wrap ((i:Int)+1)=(i:Int)+1:=IntWalk.i64_in _ Oa;obtain⟨t,o⟩:∃ t,(x.toList==op.toList)=t:=⟨_,rfl⟩;clear six;cases t
   ·go_wp2;go_roundg m
    case rel=>exact⟨i+1,Od,Oa,rfl⟩
    case measure=>omega
   ·go_wp2;go_ret;exact⟨_,rfl,e⟩
  ·have j:decide ((i:Int) < 6)=false:=by simp;omega
   go_wp2;go_ret;exact⟨_,rfl,e⟩
end
section
variable {H U:Nat} {L E:List NQ} {A F:List Int} {ns Z g:Nat} {Y D M B C:Value} {V:List V3} {K:Int->Prop}
def bT5(L:List NQ)(m:Nat)(y:Int):Prop:=∃ n,Ndq L y n/\(n.d=4->0<=n.ref/\n.ref < m)
def bYO(L:List NQ)(m:Nat)(c:Int):Prop:=∃ n y z,Ndq L c n/\n.c=[y,z]/\bT5 L m y/\bT5 L m z
def SdW(b:Nat)(w:World):Prop:=∃ cs:Array Value,w.1[b]?=some (.cells cs 473 (0,0))/\cs.size=4/\∀ o,o < 4->∃ u:Int,cs[o]?=some (Qc u)
theorem SdW.set{b o:Nat}{u:Int}{w:World}(h:SdW b w):SdW b (w.setCell ⟨b,o,none⟩ (Qc u)):=by
 obtain⟨d,c,e,f⟩:=h;refine⟨_,aM _ c,Qh,fun k j=>?_⟩
 grind
theorem SdW.get{b:Nat}{w:World}(h:SdW b w){o:Nat}(j:o < 4):∃ u:Int,w.cell? ⟨b,o,none⟩=some (Qc u):=by
 obtain⟨c,d,e,f⟩:=h
 grind[cell_of_row]
theorem SdW.fr{b:Nat}{w:World}(h:SdW b w)(o:Nat):w.frozen? ⟨b,o,none⟩=false:=by
 obtain⟨d,c,_⟩:=h;simp[World.frozen?,c]
theorem SdW.below{b:Nat}{w w':World}(h:SdW b w)(j:Below w.1.size w w'):SdW b w':=by
 obtain⟨c,d,e,f⟩:=h;exact⟨c,(j.block _ Qg).t d,e,f⟩
theorem bP3{C:Value}{R:List (Int × Int)}{w:World}(l:w.ownsRow H 232 2 C R.length (rgC R)){i:Nat}(hi:i < R.length):∃ (g J:Nat) (r:Int × Int),R[i]?=some r/\C= Qe g R.length J/\w.cell? ⟨g,i*2,none⟩=some (Qc r.1)/\w.cell? ⟨g,i*2+1,none⟩=some (Qc r.2)/\g < w.1.size:=by
 obtain⟨r,c⟩:∃ r,R[i]?=some r:=Qh;obtain⟨e,f⟩:=bQU R i r c;rcases l.2 with⟨_,h⟩|⟨g,J,m,rfl,_,d,n,_,hsz,k⟩
 ·omega
 have b:∀ j,j < R.length*2->w.cell? ⟨g,j,none⟩=(rgC R)[j]?:=fun j b=>by
  rw[cell_of_row _ _ _ _ _ _ d,<-k,List.getElem?_take,if_pos b];simp
 exact⟨g,J,r,c,rfl,by rw[b _ Oa];exact e,by rw[b _ Oa];exact f,(Oo d)⟩
theorem bYR(_:L.length<=100000)(_:F.length<=100000)(f:Nat)(x:Int)(u:NQ)(hf:F[f]?=some x)(hx:Ndq L x u)(R:List (Int × Int))(y6:∀ c∈u.e,bYO L R.length c)(w:World)(hw:FdW H U L A F ns Y D M B V w){Hb:Nat}(hr:w.ownsRow Hb 232 2 C R.length (rgC R)):
 Calls prog 294 #[Qd U,Qc (f:Int),C] w (aIC w):=by
 obtain⟨b5,gr,c7,b1,c1,b2,c2,b3,c3,rfl,f6,rfl,y1,g0,e0,X,e2,e3,e4,e5,e6,e7,e8,e9,a2⟩:=hw.Q hx;obtain⟨gf,cf,rfl,z4⟩:=bLE hw.fns hf;have f1:=(List.getElem?_eq_some_iff.1 hf).1;have c8:0<=(f:Int)/\(f:Int) < (F.length:Int):=Oa
 have d1:0<=(b5:Int)/\(b5:Int) < (L.length:Int):=Oa
 have z2:w.cell? ⟨U,3,none⟩=some (Qe gf F.length cf):=by
  obtain⟨vI,g7,hp⟩:=hw.prog;rw[cell_of_row _ _ _ _ _ _ hp];rfl
 have z0:=bSZ y1.h;go_enter func294,ntmps294
 go_upto_region 1 with fail
 go_quiet (fail)
 go_upto_region 2 with fail
 clear e0 X e2 e3 e4 e5 e6 e7 e8 e9 a2 g0 z2 z4;go_wp2;have kd:Below w.1.size w (w.drewN nq):=bM5 (Below.refl _ _) nq;go_loopg [8] (u.e.length+1) (fun a8 v8 wr=>∃ i:Nat,v8= Qc i/\i+a8=u.e.length+1/\Below w.1.size w wr)
 case atStart=>exact⟨0,rfl,Oa,kd⟩
 case round=>
  clear kd;obtain⟨i,rfl,f2,l⟩:=hrel
  by_cases hi:i < u.e.length
  ·have t0:decide ((i:Int) < (u.e.length:Int))=true:=by simp;omega
   have d7:0<=(i:Int)/\(i:Int) < (u.e.length:Int):=Oa
   obtain⟨n2,rfl⟩:=Oj gk;have g3:IntKind.i64.wrap ((i:Int)+1)=(i:Int)+1:=IntWalk.i64_in _ (by unfold maxLen at z0;omega);obtain⟨c,hc⟩:∃ c,u.e[i]?=some c:=⟨u.e[i],List.getElem?_eq_getElem _⟩;obtain⟨q,a9,b4,z3,v,hy,hz⟩:=y6 c (Qr hc);obtain⟨gw,cw,y0,h8⟩:=bLE y1.h hc;have k0:=Qp _ _ h8;simp only[Value.slice.injEq]at y0;obtain⟨rfl,-,rfl⟩:=y0;have k7:=hw.below l;obtain⟨k9,b8,b7,a1,G,J,O,N,P,rfl,f4,hv,y7,g0,e0,X,e2,e3,e4,e5,e6,e7,e8,e9,a2⟩:=k7.Q z3;simp only[Value.slice.injEq,Option.some.injEq,Addr.mk.injEq]at hv;obtain⟨⟨rfl,-⟩,-,rfl⟩:=hv;have k4:0<=(k9:Int)/\(k9:Int) < (L.length:Int):=Oa
   have h8:=(l.cell (p:=⟨gw,i,none⟩) k0).t h8;have h7:=Qp _ _ g0;have h6:=Qp _ _ e0;have k0:=Qp _ _ h8;dsimp only at h7 h6 k0;have k5:Hid (q.c=[a9,b4]):=v;clear v;go_upto_region 5 with fail
   go_cut [9]from 34 to 84 (fun y w'=>∃ n:Nat,y= Qd n/\w'.1[n]?=some (bMB q a1 G J O N P)/\w.1.size<=n/\Below wr.1.size wr w')
   case first=>
    go_region
    all_goals go_wp2
    all_goals go_meet
    all_goals exact⟨_,rfl,Qk wr _,l.size,((Below.refl _ _).alloc Ol _).drew⟩
   case rest=>
    obtain⟨n,rfl,m,d3,j⟩:=hcut;have d2:=(Oo m);have k6:=j.size;clear h8 h7 h6 k0 g0 e0 X e2 e3 e4 e5 e6 e7 e8 e9 a2 k7;generalize wc=S at*;go_upto_region 7 with fail
    obtain⟨T,h9⟩:∃ T,T=S.alloc (Qf #[Qc 0,Qc 0,Qc 0,Qc 0] 473):=⟨_,rfl⟩;have m:T.1[n]?=some (bMB q a1 G J O N P):=by rw[h9,hal,Oh];exact m
    have k:SdW S.1.size T:=⟨_,by rw[h9];exact Qk S _,rfl,fun o ho=>by
     have:o=0\/o=1\/o=2\/o=3:=Oa
     rcases this with rfl|rfl|rfl|rfl
     all_goals exact⟨_,rfl⟩⟩
    have j:Below wr.1.size wr T:=by rw[h9];exact j.alloc k6 _
    rw[<-h9];have v:=k5.o;have g5:wr.1.size<=S.1.size:=k6;clear h9;generalize S.1.size=I at*;go_wp2;obtain⟨s,rfl⟩:∃ s,s=wr:=⟨_,rfl⟩;go_loopg [11] 3 (fun a8 c5 wJ=>∃ d:Nat,c5= Qc d/\d+a8=3/\wJ.1[n]?=some (bMB q a1 G J O N P)/\SdW I wJ/\Below s.1.size s wJ)
    case atStart=>exact⟨0,rfl,Oa,m,k,j⟩
    case round=>
     clear m k j;obtain⟨d,rfl,f7,m,k,j⟩:=hrel
     by_cases f5:d < 2
     ·have t1:decide ((d:Int) < 2)=true:=by simp;omega
      obtain⟨m2,rfl⟩:=Oj gk;have d8:0<=(d:Int)/\(d:Int) < 2:=Oa
      have g4:IntKind.i64.wrap ((d:Int)+1)=(d:Int)+1:=IntWalk.i64_in _ Oa
      obtain⟨y',y5,t,y8,h5⟩:∃ y',q.c[d]?=some y'/\bT5 L R.length y':=by
       have:d=0\/d=1:=Oa
       rcases this with rfl|rfl
       ·exact⟨a9,by rw[v];rfl,hy⟩
       ·exact⟨b4,by rw[v];rfl,hz⟩
      obtain⟨g6,c6,k8,k1,y9⟩:=bNN y7 y5;simp only[Value.slice.injEq]at k8;obtain⟨rfl,-,rfl⟩:=k8;have k3:q.c.length=2:=by rw[v];rfl
      have k1:=(j.cell (p:=⟨g6,d,none⟩) y9).t k1;have l5:wr.cell? ⟨n,5,none⟩=some (Qe g6 2 G):=by rw[cell_of_row _ _ _ _ _ _ m,<-k3];rfl
      have b9:=l.t (j.mono l.size);obtain⟨kn,b8,b7,a4,d4,a5,d5,a6,d6,rfl,f8,hv,_,g0,e0,X,e2,e3,e4,e5,e6,e7,e8,e9,a2⟩:=(hw.below b9).Q y8;simp only[Value.slice.injEq,Option.some.injEq,Addr.mk.injEq]at hv;obtain⟨⟨rfl,-⟩,-,rfl⟩:=hv;have d9:0<=(kn:Int)/\(kn:Int) < (L.length:Int):=Oa
      have h7:=Qp _ _ g0;have h6:=Qp _ _ e0;have y3:=Qp _ _ k1;have k4:=Qp _ _ l5;dsimp only at h7 h6 y3 k4;have k5:Hid (q.c=[a9,b4]/\q.c.length=2):=⟨v,k3⟩;clear v k3;go_upto_region 10 with fail
      go_cut [12]from 48 to 75 (fun y w'=>∃ b:Nat,y= Qd b/\w'.1[b]?=some (bMB t a4 d4 a5 d5 a6 d6)/\wr.1.size<=b/\Below wr.1.size wr w')
      case first=>
       go_region
       all_goals go_wp2
       all_goals go_meet
       all_goals exact⟨_,rfl,Qk wr _,Ql _,((Below.refl _ _).alloc Ol _).drew⟩
      case rest=>
       obtain⟨Q,rfl,a3,c9,k2⟩:=hcut;have f9:=(Oo k.choose_spec.1);have m:=(k2.block _ k4).t m;have k:=k.below k2;have j:=j.t (k2.mono j.size);have g1:Q≠I:=Oa
       have v:=k5.o.1;clear k1 l5 g0 e0 X e2 e3 e4 e5 e6 e7 e8 e9 a2 h7 h6 y3 k2;generalize wc=z at*;have l0:z.cell? ⟨Q,0,none⟩=some (Qc t.d):=Og a3 rfl
       have l3:z.cell? ⟨Q,3,none⟩=some (Qc t.n):=Og a3 rfl
       have l9:z.cell? ⟨Q,9,none⟩=some (Qc t.ref):=Og a3 rfl
       obtain⟨u0,c0⟩:=k.get (o:=d*2) Oa;obtain⟨u1,c1⟩:=k.get (o:=d*2+1) Oa;have cf:=k.fr;have hsz:=l.size
       have fin:∀ (a7 y:Int) (W:World),W.1[n]?=some (bMB q (some ⟨g6,0,none⟩) G J O N P)/\SdW I W/\Below s.1.size s W->((W.setCell ⟨I,d*2,none⟩ (Qc a7)).setCell ⟨I,d*2+1,none⟩ (Qc y)).1[n]?=some (bMB q (some ⟨g6,0,none⟩) G J O N P)/\SdW I ((W.setCell ⟨I,d*2,none⟩ (Qc a7)).setCell ⟨I,d*2+1,none⟩ (Qc y))/\Below s.1.size s ((W.setCell ⟨I,d*2,none⟩ (Qc a7)).setCell ⟨I,d*2+1,none⟩ (Qc y)):=fun a7 y W ⟨h1,h2,h3⟩=>
        ⟨(Om (by show n≠I;omega)).t ((Om (by show n≠I;omega)).t h1),h2.set.set,(h3.setCell (by show s.1.size<=I;omega) _).setCell (by show s.1.size<=I;omega) _⟩
       have HZ:Hid (z.1[n]?=some (bMB q (some ⟨g6,0,none⟩) G J O N P)/\SdW I z/\Below s.1.size s z):=⟨m,k,j⟩
       by_cases h4:t.d=4
       ·have t4:(t.d==4)=true:=by simp[h4]
        obtain⟨o1,o2⟩:=h5 h4;obtain⟨ir,z1⟩:=Int.eq_ofNat_of_zero_le o1;obtain⟨gv,cv,rr,_,rfl,r0,r1,y2⟩:=bP3 hr (i:=ir) Oa;have r0:=(l.t (j.mono l.size)).cell (p:=⟨gv,ir*2,none⟩) y2|>.t r0
        have r1:=(l.t (j.mono l.size)).cell (p:=⟨gv,ir*2+1,none⟩) y2|>.t r1
        have g2:gv≠I:=Oa
        have e1:0<=(ir:Int)/\(ir:Int) < (R.length:Int):=Oa
        rw[z1]at l9;clear m k j a3;go_wp2;go_roundg m2
        case rel=>
         have h:=fin rr.1 rr.2 _ (fin t.n t.n _ HZ.o);exact⟨d+1,Od,Oa,h.1,h.2.1,h.2.2⟩
        case measure=>omega
       ·have t4:(t.d==4)=false:=by simp[h4]
        clear m k j a3;go_wp2;go_roundg m2
        case rel=>
         have h:=fin t.n t.n _ HZ.o;exact⟨d+1,Od,Oa,h.1,h.2.1,h.2.2⟩
        case measure=>omega
     ·have t1:decide ((d:Int) < 2)=false:=by simp;omega
      obtain⟨u0,c0⟩:=k.get (o:=0) Oa;obtain⟨u1,c1⟩:=k.get (o:=1) Oa;obtain⟨u2,c2⟩:=k.get (o:=2) Oa;obtain⟨u3,c3⟩:=k.get (o:=3) Oa;have l2:wr.cell? ⟨n,2,none⟩=some (.string q.s):=Og m rfl
      clear m k;go_upto_region 15 with(go_at_call 332;refine(bWZ q.s (_,_) (_,_) _).mono ?_;rintro e z ⟨ok,rfl,y4⟩)
      have b6:=(l.t (j.mono l.size)).t (y4.mono (l.t (j.mono l.size)).size);clear c0 c1 c2 c3 l2 j y4;cases ok
      ·go_wp2;go_ret;exact⟨_,rfl,b6⟩
      ·go_wp2;go_roundg n2
       case rel=>exact⟨i+1,Od,Oa,b6⟩
       case measure=>omega
  ·have t0:decide ((i:Int) < (u.e.length:Int))=false:=by simp;omega
   go_wp2;go_ret;exact⟨_,rfl,l⟩
end
end Go.Proofs.YtikffmloeifkpaaGreatDoor
