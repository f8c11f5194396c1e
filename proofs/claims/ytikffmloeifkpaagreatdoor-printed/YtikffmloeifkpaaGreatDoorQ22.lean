/- Contracts. -/
import Derived.Test.YtikffmloeifkpaaGreatDoorQ21
import Derived.Test.YtikffmloeifkpaaGreatDoorQ20
set_option maxHeartbeats 8000000
set_option maxRecDepth 100000
namespace Go.Proofs.YtikffmloeifkpaaGreatDoor
section
open Go.RowKit Go.Lib Go.Deep Go.ChangeMaps Go.MapKept
variable {C:Cl} {vars:Nat->Int} {B pb rb fb d:Nat} {r:Rn} {w w' u:World} {value:Int} {al fl:List Tr}
def aA9(lens:Nat->Int)(k i v s:Int)(r:Rn):Rn:=if fI lens k i then {r with arr:=upd r.arr (gH k i) v}else r.trap s
theorem aPO{b o:Nat}{a:Nd}{l q:Tr}(ht:a.tag=10)(hC:COk C)(hk:0<=a.which/\a.which < al.length)(hl:Ws 0 l/\GX 200 B pb d C al fl bCH l)(hq:Ws 0 q/\GX 200 B pb d C al fl bCH q)(vars:Nat->Int)(value:Int)(r:Rn)(w:World)(h:XW B pb rb fb d al fl vars value r w)(hi:IsT w (.node b o a l q)):
 Calls Tryz.prog 256 #[.pointer (some ⟨fb,0,none⟩),.pointer (some ⟨b,0,none⟩)] w fun e w'=>e= .returned (.tuple #[])/\
  RnW B pb rb (aA9 (bCG al) a.which (hd (exW (bCG al) C vars l r).1) (hd (exW (bCG al) C vars q (exW (bCG al) C vars l r).2).1) a.site (exW (bCG al) C vars q (exW (bCG al) C vars l r).2).2) w'/\Wx B rb w w':=by
 obtain⟨k,k5⟩:∃ k:Nat,a.which=k:=⟨a.which.toNat,Oa⟩;have k6:k < al.length:=Oa
 obtain⟨y7,y4⟩:=hl;obtain⟨y6,y3⟩:=hq;obtain⟨u,p,y8⟩:=y7.val Ox;obtain⟨u2,p2,k3⟩:=y6.val Ox
 have cellsO:∀ W:World,Own W b a l q->W.cell? ⟨b,0,none⟩=some (.string a.name)/\W.cell? ⟨b,1,none⟩=some (.int .i64 a.npos)/\W.cell? ⟨b,2,none⟩=some (.int .i64 (k:Int))/\W.cell? ⟨b,3,none⟩=some (bCH l)/\W.cell? ⟨b,4,none⟩=some (bCH q)/\W.cell? ⟨b,5,none⟩=some (.int .i64 a.site):=fun W ho=>by
  obtain⟨cs,hc,hn,h3,h4,h5⟩:=aI ho (n:=10) ht;have y9:cs[2]?=some (.int .i64 (k:Int)):=by rw[<-k5];exact hn.2.2
  exact⟨Og hc hn.1,Og hc hn.2.1,Og hc y9,Og hc h3,Og hc h4,Og hc h5⟩
 have h1:=y4 rb fb vars value r w h hi.1;obtain⟨_,_,_,m3,_,_⟩:=cellsO w hi.2.2;rw[y8]at m3 h1;have y2:=lQ (lens:=bCG al) (vars:=vars) hC l r;have k1:=lQ (lens:=bCG al) (vars:=vars) hC q (exW (bCG al) C vars l r).2;have HO:Hid _:=cellsO;have HI:Hid (IsT w (.node b o a l q)):=hi;have HH:Hid (XW B pb rb fb d al fl vars value r w):=h
 have y5:Hid (∀ w2,XW B pb rb fb d al fl vars value (exW (bCG al) C vars l r).2 w2->IsT w2 q->Calls Tryz.prog 200 #[.pointer (some ⟨fb,0,none⟩),.iface u2 (.pointer (some p2))] w2 (aBK B pb rb (hd (exW (bCG al) C vars q (exW (bCG al) C vars l r).2).1) (exW (bCG al) C vars q (exW (bCG al) C vars l r).2).2 w2)):=fun w2 h2 i2=>by
  have:=y3 rb fb vars value _ w2 h2 i2;rw[k3]at this;exact this
 rw[k5];generalize exW (bCG al) C vars q (exW (bCG al) C vars l r).2=y at*;generalize exW (bCG al) C vars l r=x at*;obtain⟨xl,r2⟩:=x;obtain⟨yl,r3⟩:=y;dsimp only at*;generalize hd xl=i at*;generalize hd yl=D at*;clear cellsO hi h y4 y3 hk;have hkI:0<=(k:Int)/\(k:Int) < (al.length:Int):=Oa
 clear k5
 have h7:(∃ n:Nat,i=n/\n < 64/\k < 6/\fI (bCG al) (k:Int) i=true)\/fI (bCG al) (k:Int) i=false:=by
  cases h6:fI (bCG al) (k:Int) i
  ·exact .inr rfl
  ·left;obtain⟨g9,cp9,b9,_,_,_,l1,l2⟩:=HH.out.pg.at k6;have hf:=HH.out.pg.few;unfold fI at h6;simp only[Bool.and_eq_true,decide_eq_true_eq,Int.toNat_natCast]at h6;exact⟨i.toNat,Oa,Oa,Oa,rfl⟩
 rcases h7 with⟨n,rfl,hn64,hk6,h6⟩|h6
 ·have k4:Hid (aA9 (bCG al) k n D a.site r3={r3 with arr:=upd r3.arr (gH k n) D}):=by rw[Hid];unfold aA9;rw[if_pos h6]
  have hnI:0<=(n:Int)/\(n:Int) < 64:=Oa
  have hkJ:0<=(k:Int)/\(k:Int) < 6:=Oa
  go_enter Tryz.func256,Tryz.ntmps256
  go_wp2_with fail
  refine h1.mono ?_;rintro e W2 ⟨rfl,h2,x2⟩;have X2:=HH.out.wx h2 x2 y2;have i2:IsT W2 (.node b o a l q):=IsT.wx HH.out.rn x2 HI.out;obtain⟨_,_,_,_,m4,_⟩:=HO.out W2 i2.2.2;rw[k3]at m4;have h0:=y5.out W2 X2 i2.2.1;have k2:Hid _:=X2;have k8:Hid _:=x2;have y1:Hid (IsT W2 (.node b o a l q)):=i2;clear X2 x2 i2 h2 h1 m3;go_wp2_with fail
  refine h0.mono ?_;rintro e W3 ⟨rfl,h3,x3⟩;have X3:=k2.out.wx h3 x3 k1;have i3:IsT W3 (.node b o a l q):=IsT.wx k2.out.rn x3 y1.out;obtain⟨n0,n1,n2,_,_,n5⟩:=HO.out W3 i3.2.2;have k0:=pP W3.drew h3.drew (show FmW rb fb vars value W3.drew from X3.fm) X3.pg.drew a.name a.npos k k6 n a.site;rw[h6]at k0;have h9:Hid _:=X3;have k7:Hid _:=k8.out.trans x3;have y0:Hid (Own W3 b a l q):=i3.2.2;clear X3 x3 i3 h3 h0 m4 h6;go_wp2_with fail
  go_region_held3 (fun w'=>w'.cell? ⟨b,0,none⟩=some (.string a.name)/\w'.cell? ⟨b,1,none⟩=some (.int .i64 a.npos)/\w'.cell? ⟨b,2,none⟩=some (.int .i64 k)/\w'.cell? ⟨b,5,none⟩=some (.int .i64 a.site))
   (first
     |(refine⟨?_,?_,?_,?_⟩<;>assumption)
     |go_keep)
   ((refine eC rfl 304 #[.pointer (some ⟨fb,0,none⟩),.agg #[.string a.name,.int .i64 a.npos,.int .i64 k],.int .i64 n,.int .i64 a.site] _ (by go_simp) k0 ?_;rintro e W4 ⟨rfl,h4,x4⟩;refine⟨_,rfl,?_⟩;have o4:Own W4 b a l q:=dH.wx (w:=W3.drew) h9.out.rn.drew x4 y0.out;obtain⟨p0,p1,p2,_,_,p5⟩:=HO.out W4 o4))
  have h8:RnW B pb rb r3 W4:=h4;have f4:=((show FmW rb fb vars value W3.drew from h9.out.fm).wx x4 (h9.out.fm.ne h9.out.rn)).cells.1
  have a4:W4.cell? ⟨rb,1+k*64+n,none⟩=some (.int .i64 (r3.arr (gH k n))):=by
   rw[show 1+k*64+n=gH k n+1 by unfold gH;simp only[Int.toNat_natCast];omega];exact h8.arrAt (by unfold gH;simp only[Int.toNat_natCast];omega)
  have z4:=h8.cells.2.2.2.2.2
  have FIN:Hid (RnW B pb rb (aA9 (bCG al) k n D a.site r3) (W4.setCell ⟨rb,1+k*64+n,none⟩ (.int .i64 D))):=by
   rw[Hid,k4.out,show 1+k*64+n=gH k n+1 by unfold gH;simp only[Int.toNat_natCast];omega];exact h8.put ⟨h8.few.1,h8.few.2.1⟩ rfl (fun cs vO hc=>hc.setArr (by unfold gH;simp only[Int.toNat_natCast];omega) D)
  have k9:Hid _:=x4;clear h4 x4 h8 o4;generalize r3.arr (gH k n)=V at*;go_wp2_with fail
  go_region
  all_goals go_wp2
  all_goals go_end0
  all_goals exact⟨rfl,FIN.out.drew,((k7.out.drew.trans k9.out).set _ _).drew⟩
 ·have k4:Hid (aA9 (bCG al) k i D a.site r3=r3.trap a.site):=by rw[Hid];unfold aA9;rw[if_neg (by rw[h6];decide)]
  go_enter Tryz.func256,Tryz.ntmps256
  go_wp2_with fail
  refine h1.mono ?_;rintro e W2 ⟨rfl,h2,x2⟩;have X2:=HH.out.wx h2 x2 y2;have i2:IsT W2 (.node b o a l q):=IsT.wx HH.out.rn x2 HI.out;obtain⟨_,_,_,_,m4,_⟩:=HO.out W2 i2.2.2;rw[k3]at m4;have h0:=y5.out W2 X2 i2.2.1;have k2:Hid _:=X2;have k8:Hid _:=x2;have y1:Hid (IsT W2 (.node b o a l q)):=i2;clear X2 x2 i2 h2 h1 m3;go_wp2_with fail
  refine h0.mono ?_;rintro e W3 ⟨rfl,h3,x3⟩;have X3:=k2.out.wx h3 x3 k1;have i3:IsT W3 (.node b o a l q):=IsT.wx k2.out.rn x3 y1.out;obtain⟨n0,n1,n2,_,_,n5⟩:=HO.out W3 i3.2.2;have k0:=pP W3.drew h3.drew (show FmW rb fb vars value W3.drew from X3.fm) X3.pg.drew a.name a.npos k k6 i a.site;rw[h6]at k0;have h9:Hid _:=X3;have k7:Hid _:=k8.out.trans x3;have y0:Hid (Own W3 b a l q):=i3.2.2;clear X3 x3 i3 h3 h0 m4 h6;go_wp2_with fail
  go_region_held3 (fun w'=>w'.cell? ⟨b,0,none⟩=some (.string a.name)/\w'.cell? ⟨b,1,none⟩=some (.int .i64 a.npos)/\w'.cell? ⟨b,2,none⟩=some (.int .i64 k)/\w'.cell? ⟨b,5,none⟩=some (.int .i64 a.site))
   (first
     |(refine⟨?_,?_,?_,?_⟩<;>assumption)
     |go_keep)
   ((refine eC rfl 304 #[.pointer (some ⟨fb,0,none⟩),.agg #[.string a.name,.int .i64 a.npos,.int .i64 k],.int .i64 i,.int .i64 a.site] _ (by go_simp) k0 ?_;rintro e W4 ⟨rfl,h4,x4⟩;refine⟨_,rfl,?_⟩;have o4:Own W4 b a l q:=dH.wx (w:=W3.drew) h9.out.rn.drew x4 y0.out;obtain⟨p0,p1,p2,_,_,p5⟩:=HO.out W4 o4))
  have FIN:Hid (RnW B pb rb (aA9 (bCG al) k i D a.site r3) W4):=by rw[Hid,k4.out];exact h4
  have k9:Hid _:=x4;clear h4 x4 o4;go_wp2;go_end0
  exact⟨rfl,FIN.out,k7.out.drew.trans k9.out⟩
end
section
open Go.RowKit Go.Lib Go.Deep Go.ChangeMaps Go.MapKept
variable {vars:Nat->Int}
theorem aA2{t:Tr}(h:Ws 21 t):∃ v,∀ lens C r,exW lens C vars t r=([v],r):=by
 cases t with
 |nil=>exact absurd h (by unfold Ws bK;simp)
 |node b o a l q=>
  obtain⟨_,x,y,h3,_⟩:=h.parts
  by_cases h0:a.tag=0
  ·exact⟨a.val,fun lens C r=>if_pos h0⟩
  by_cases h1:a.tag=1
  ·exact⟨vars a.which.toNat,fun lens C r=>(if_neg h0).trans (if_pos h1)⟩
  ·exfalso;have h2: ¬a.tag<=1:=Oa
   simp[sig,h2]at h3
theorem zY{t:Tr}(h:Ws 20 t):∃ v,∀ lens C r,cdW lens C vars t r=(v,r):=by
 cases t with
 |nil=>exact absurd h (by unfold Ws bK;simp)
 |node b o a l q=>
  obtain⟨_,x,y,h0,hl,hq⟩:=h.parts
  have h7:a.tag=7:=by
   by_cases h:a.tag=7
   ·exact h
   ·exfalso;simp[sig,h]at h0
  rw[h7]at h0;cases h0;obtain⟨v,hv⟩:=aA2 (vars:=vars) hl;obtain⟨u,hu⟩:=aA2 (vars:=vars) hq;refine⟨jV a.op v u,fun lens C r=>?_⟩;have e:cdW lens C vars (.node b o a l q) r=(jV a.op (hd (exW lens C vars l r).1) (hd (exW lens C vars q (exW lens C vars l r).2).1),(exW lens C vars q (exW lens C vars l r).2).2):=if_pos h7;rw[e,hv,hu];rfl
theorem aPI{b o:Nat}{a:Nd}{e q:Tr}(h15:a.tag=15){lens:Nat->Int}{C:Cl}{r:Rn}(he:Ws 20 e):tkW vars (.node b o a e q)=((cdW lens C vars e r).1&&tkW vars q):=by
 obtain⟨v,hv⟩:=zY (vars:=vars) he;have e1:tkW vars (.node b o a e q)=((cdW (fun _=>0) (fun _ _ _ r=>(0,r)) vars e ⟨fun _=>0,0,0,0,0,[]⟩).1&&tkW vars q):=Oh;rw[e1,hv,hv]
theorem aPH{t:Tr}(h:Ws 5 t):tkW vars t=tkW vars (bCF t):=by
 rcases h.lst (.inr Ow)with rfl|⟨b,o,a,l,rfl,ht,_⟩
 ·rfl
 ·exact if_pos ht
end
section
open Go.RowKit Go.Lib Go.Deep Go.ChangeMaps Go.MapKept
variable {C:Cl} {vars:Nat->Int} {B pb rb fb d:Nat} {r:Rn} {w w' u:World} {value:Int} {al fl:List Tr}
theorem aH9{cb:Nat}{p:Tr}(h4:Ws 5 p)(hA:fE (fun e=>Ws 20 e/\GB 130 B pb d C al fl cB e) (bCF p))(w:World)(h:XW B pb rb fb d al fl vars value r w)(hi:IsT w p)(hc:w.cell? ⟨cb,4,none⟩=some (bCH p)):
 Calls Tryz.prog 77 #[.pointer (some ⟨fb,0,none⟩),.pointer (some ⟨cb,0,none⟩)] w fun e w'=>e= .returned (.bool (tkW vars p))/\RnW B pb rb r w'/\Wx B rb w w':=by
 obtain⟨ao,cp,k4⟩:=h4.lstval Ov;have hlen:=fB Ov h4;have h5:=h4.elems Ov;rw[aPH h4];rw[k4]at hc;have y4:Hid (Ws 5 p):=h4;have y5:Hid (Ws 15 (bCF p)):=h5;have L0:XW B pb rb fb d al fl vars value r w/\IsT w p/\Wx B rb w w:=⟨h,hi,Wx.refl _ _ _⟩;obtain⟨T,hT⟩:∃ T,T=tkW vars (bCF p):=⟨_,rfl⟩;rw[<-hT];have k7:T=tkW vars (aL 0 (bCF p)):=hT;clear h hi h5 h4 hT;go_enter Tryz.func77,Tryz.ntmps77
 go_wp2_with fail
 go_loopg [12] (aD p) (fun m v wr=>∃ i:Nat,v= .int .i64 i/\i<=aD p/\aD p<=i+m/\T=tkW vars (aL i (bCF p))/\XW B pb rb fb d al fl vars value r wr/\IsT wr p/\Wx B rb w wr)
 case atStart=>exact⟨0,rfl,Qe _,Oa,k7,L0⟩
 case round=>
  clear L0 k7;obtain⟨i,rfl,hle,hm,hT,X,h6,hx⟩:=hrel
  by_cases y2:i < aD p
  ·have k2:(i:Int) < (aD p:Int):=Oa
   obtain⟨b2,o2,a2,e2,r2,hd,k6⟩:=dK i (bCF p) (by rw[<-aT];exact y2);have k8:=fE.drop i _ hA;have k3:=eX Ov i _ y5.out;rw[hd]at k8 hT k3;obtain⟨k9,⟨hE,hG⟩,_⟩:=k8
   obtain⟨b3,o3,a3,l3,q3,rfl,h7⟩:∃ b o a l q,e2= .node b o a l q/\a.tag=7:=by
    cases e2 with
    |nil=>exact absurd hE (by unfold Ws bK;simp)
    |node b o a l q=>
     obtain⟨_,x,y,k1,_⟩:=hE.parts;refine⟨b,o,a,l,q,rfl,?_⟩
     by_cases h:a.tag=7
     ·exact h
     ·exfalso;simp[sig,h]at k1
   obtain⟨gg,rfl,h3⟩:=pJ (H:=0) y4.out h6 (Fr.refl 0 F0 wr) F0.body k4 hd ⟨b3,o3,a3,l3,q3,rfl,h7⟩;have h3:wr.cell? ⟨gg,i,none⟩=some (.pointer (some ⟨b3,0,none⟩)):=h3
   have k5:IsT wr (.node b3 o3 a3 l3 q3):=by
    have h1:IsT wr (bCF p):=by
     cases p with
     |nil=>trivial
     |node=>exact h6.1
    have h2:=nQ i _ h1;rw[hd]at h2;exact h2.1
   have h0:=hG rb fb vars value r wr X k5;obtain⟨v,hv⟩:=zY (vars:=vars) hE;rw[hv]at h0;have h0:Calls Tryz.prog 130 #[.pointer (some ⟨fb,0,none⟩),.pointer (some ⟨b3,0,none⟩)] wr (aIC B pb rb v r wr):=h0
   have h9:T=(v&&tkW vars r2):=by
    rw[hT,aPI (lens:=bCG al) (C:=C) (r:=r) k9 hE,hv]
   have HX:Hid _:=X;have h8:Hid (Wx B rb w wr):=hx;have y0:Hid (IsT wr p):=h6;have y1:Hid (aL (i+1) (bCF p)=r2):=k6;clear hG hE hd k6 k5 X hx h6 hv hT k3 h7 k9;cases v
   ·have k0:Hid (T=false):=h9;clear h9;go_wp2_with fail
    refine h0.mono ?_;rintro e W3 ⟨rfl,g3,x3⟩;have HG:Hid _:=g3;have y3:Hid _:=h8.out.trans x3;clear g3 x3;go_wp2;go_ret;exact⟨bX (by rw[k0.out]),HG.out,y3.out⟩
   ·have k0:Hid (T=tkW vars r2):=by rw[Hid,h9];rfl
    clear h9;go_wp2_with fail
    refine h0.mono ?_;rintro e W3 ⟨rfl,g3,x3⟩;obtain⟨m,rfl⟩:=Oj gk
    have fin:∃ i':Nat,Value.int .i64 ((i:Int)+1)= .int .i64 i'/\i'<=aD p/\aD p<=i'+m/\T=tkW vars (aL i' (bCF p))/\XW B pb rb fb d al fl vars value r W3/\IsT W3 p/\Wx B rb w W3:=
     ⟨i+1,Od,Oa,Oa,by rw[y1.out];exact k0.out,HX.out.wx g3 x3 (Mn.refl _),IsT.wx HX.out.rn x3 y0.out,h8.out.trans x3⟩
    clear g3 x3 HX h8 y0 y1 k0;go_wp2;go_roundg m
    case rel=>exact fin
    case measure=>omega
  ·have k2: ¬(i:Int) < (aD p:Int):=Oa
   have y6:Hid (T=true):=by
    rw[Hid,hT,show i=aO (bCF p)by rw[<-aT];omega,eS];rfl
   have HR:Hid _:=X.rn;have h8:Hid _:=hx;clear X hx h6 hT;go_wp2;go_ret;exact⟨bX (by rw[y6.out]),HR.out,h8.out⟩
end
section
open Go.RowKit Go.Lib Go.Deep Go.ChangeMaps Go.MapKept
variable {B pb rb fb d:Nat} {r:Rn} {w w' u:World} {vars:Nat->Int} {value:Int} {al fl:List Tr}
structure Wy(B rb fb:Nat)(w w':World):Prop where
 os:w'.os=w.os
 tape:w'.tape=w.tape
 output:w'.output=w.output
 size:w.heap.size<=w'.heap.size
 low:∀ k,k < B->k≠rb->k≠fb->k < w.heap.size->w'.heap[k]?=w.heap[k]?
 block:∀ k cs t,w.heap[k]?=some (.cells cs t (0,0))->k≠rb->k≠fb->t≠2->w'.heap[k]?=some (.cells cs t (0,0))
theorem Wx.y(h:Wx B rb w w'):Wy B rb fb w w':=⟨h.os,h.tape,h.output,h.size,fun k h1 h2 _ h4=>h.low k h1 h2 h4,fun k cs t h1 h2 _ h4=>h.block k cs t h1 h2 h4⟩
theorem Wy.refl(B rb fb:Nat)(w:World):Wy B rb fb w w:=(Wx.refl _ _ _).y
theorem Wy.trans(h:Wy B rb fb u w)(k:Wy B rb fb w w'):Wy B rb fb u w':=
 ⟨k.os.trans h.os,k.tape.trans h.tape,k.output.trans h.output,Qd h.size k.size,fun i h1 h2 h3 h4=>(k.low i h1 h2 h3 (Nat.lt_of_lt_of_le h4 h.size)).trans (h.low i h1 h2 h3 h4),fun i cs t h1 h2 h3 h4=>k.block i cs t (h.block i cs t h1 h2 h3 h4) h2 h3 h4⟩
theorem Wy.set(h:Wy B rb fb u w)(o:Nat)(v:Value):Wy B rb fb u (w.setCell ⟨fb,o,none⟩ v):=
 h.trans ⟨rfl,rfl,rfl,by simp[World.setCell],fun _ _ _ h3 _=>Om h3,fun _ _ _ h1 _ h3 _=>(Om h3).trans h1⟩
theorem Wy.drewN(h:Wy B rb fb u w)(n:Nat):Wy B rb fb u (w.drewN n):=⟨h.os,h.tape,h.output,h.size,h.low,h.block⟩
theorem Wy.drew(h:Wy B rb fb u w):Wy B rb fb u w.drew:=⟨h.os,h.tape,h.output,h.size,h.low,h.block⟩
theorem Wy.caller(h:Wy B rb fb w w')(hu:Wx B rb u w)(hf:u.heap.size<=fb):Wx B rb u w':=
 ⟨h.os.trans hu.os,h.tape.trans hu.tape,h.output.trans hu.output,Qd hu.size h.size,fun k h1 h2 h3=>(h.low k h1 h2 Oa (Nat.lt_of_lt_of_le h3 hu.size)).trans (hu.low k h1 h2 h3),fun k cs t h1 h2 h3=>h.block k cs t (hu.block k cs t h1 h2 h3) h2 (Oi ((Oo h1))) h3⟩
theorem At.wy{b:Nat}{t:TypeId}{Q:Array Value->Prop}(h:At w b t Q)(hr:RnW B pb rb r w)(hf:FmW rb fb vars value w)(hx:Wy B rb fb w w')(h1:t≠2)(h2:t≠162)(h3:t≠165):At w' b t Q:=by
 obtain⟨cs,hc,hq⟩:=h;obtain⟨c2,_,h4,_⟩:=hr.ex;obtain⟨c3,h0,_⟩:=hf;exact⟨cs,hx.block _ _ _ hc (bEF hc h4 h2) (bEF hc h0 h3) h1,hq⟩
theorem aJ9(l:Tr):bL l≠165:=by
 unfold bL;repeat' split
 all_goals decide
theorem dH.wy{n b:Nat}{a:Nd}{l q:Tr}(hr:RnW B pb rb r w)(hf:FmW rb fb vars value w)(hx:Wy B rb fb w w')(h:dH n w b a l q):dH n w' b a l q:=by
 match n,h with
 |0,h|1,h|2,h|3,h|4,h|5,h|6,h|7,h|8,h|9,h|10,h|11,h|12,h|13,h|14,h|16,h|17,h=>exact At.wy h hr hf hx Ob Ob Ob
 |20,h=>exact⟨h.1,h.2.wy hr hf hx (rS _).1 (rS _).2 (aJ9 _)⟩
 |15,_|18,_|19,_=>trivial
 |n+21,_=>trivial
theorem IsT.wy(hr:RnW B pb rb r w)(hf:FmW rb fb vars value w)(hx:Wy B rb fb w w'):∀ {t:Tr},IsT w t->IsT w' t:=by
 intro t
 induction t with
 |nil=>intro _;trivial
 |node b o a l q ihl ihr=>intro h;exact⟨ihl h.1,ihr h.2.1,dH.wy hr hf hx h.2.2⟩
theorem aMZ{base n sz:Nat}{e:TypeId}{v:Value}{xs:List Value}(h:w.ownsRow base e sz v n xs)(hr:RnW B pb rb r w)(hf:FmW rb fb vars value w)(hx:Wy B rb fb w w')(h1:e≠2)(h2:e≠162)(h3:e≠165):w'.ownsRow base e sz v n xs:=
 cD h (fun k hk=>by
  obtain⟨⟨cs,hc⟩,_⟩:=bEH h hk;obtain⟨c2,_,h4,_⟩:=hr.ex;obtain⟨c3,h0,_⟩:=hf;rw[hc];exact hx.block _ _ _ hc (bEF hc h4 h2) (bEF hc h0 h3) h1)
theorem PgX.wy(h:PgX pb al fl w)(hr:RnW B pb rb r w)(hf:FmW rb fb vars value w)(hx:Wy B rb fb w w'):PgX pb al fl w':=by
 obtain⟨it,vA,vF,m,vS,H,hp,hA,hF⟩:=h.prog;obtain⟨c2,_,h2,_⟩:=hr.ex;have h0:=hf;obtain⟨c3,h1,_⟩:=h0;refine⟨⟨it,vA,vF,m,vS,H,hx.block _ _ _ hp (bEF hp h2 Ob) (bEF hp h1 Ob) Ob,aMZ hA hr hf hx Ob Ob Ob,⟨aMZ hF.row hr hf hx Ob Ob Ob,fun e he=>?_⟩⟩,fun e he=>?_,h.few,fun e he=>IsT.wy hr hf hx (h.fns e he)⟩
 ·obtain⟨b,o,a,l,x,y,z,p,q,e1,e2,e3⟩:=hF.own e he;exact⟨b,o,a,l,x,y,z,p,q,e1,At.wy e2 hr hf hx Ob Ob Ob,e3⟩
 ·obtain⟨b,o,a,l,q,e1,e2,e3⟩:=h.arr e he;exact⟨b,o,a,l,q,e1,At.wy e2 hr hf hx Ob Ob Ob,e3⟩
theorem FmW.setVar(h:FmW rb fb vars value w){k:Nat}(hk:k < 12)(v:Int):FmW rb fb (upd vars k v) value (w.setCell ⟨fb,k+1,none⟩ (.int .i64 v)):=by
 obtain⟨cs,hc,h1⟩:=h;refine⟨_,aM (o:=k+1) _ hc,bT Oa h1.run,fun i hi=>?_,bT Oa h1.value⟩
 by_cases e:i=k
 ·subst e;rw[nX (h1.vars i hi),show upd vars i v i=v from if_pos rfl]
 ·rw[bT Oa (h1.vars i hi),show upd vars k v i=vars i from if_neg e]
theorem FmW.setValue(h:FmW rb fb vars value w)(v:Int):FmW rb fb vars v (w.setCell ⟨fb,13,none⟩ (.int .i64 v)):=by
 obtain⟨cs,hc,h1⟩:=h;exact⟨_,aM (o:=13) _ hc,bT Oa h1.run,fun i hi=>bT Oa (h1.vars i hi),nX h1.value⟩
end
section
open Go.RowKit Go.Lib Go.Deep Go.ChangeMaps Go.MapKept
variable {lens:Nat->Int} {C:Cl}
structure Mo(r r':Rn):Prop where
 fuel:r'.fuel<=r.fuel
 calls:r'.calls=r.calls
 outs:r'.outs.length+r'.fuel<=r.outs.length+r.fuel+1
theorem Mn.o{r r':Rn}(h:Mn r r'):Mo r r':=⟨h.fuel,h.calls,Oi h.outs⟩
theorem Mn.and{a b c:Rn}(h:Mn a b)(k:Mo b c):Mo a c:=⟨Qd k.fuel h.fuel,k.calls.trans h.calls,Qa h.outs k.outs⟩
theorem Mo.burnt{a c:Rn}(hb:a.burns=true)(k:Mo a.burn c):Mn a c:=by
 unfold Rn.burns at hb;simp only[Bool.and_eq_true,decide_eq_true_eq]at hb;have e:a.burn={a with fuel:=a.fuel - 1}:=by unfold Rn.burn;rw[if_neg hb.1,if_pos hb.2]
 have h1:=k.fuel;have h2:=k.calls;have h3:=k.outs;rw[e]at h1 h2 h3;dsimp only at h1 h2 h3;exact⟨Oa,h2,Oa⟩
theorem aSL(r:Rn)(v:Int):Mo r (r.out v):=by
 unfold Rn.out
 split
 ·exact⟨Qc _,rfl,by simp only[List.length_append,List.length_cons,List.length_nil];omega⟩
 ·exact(Mn.refl _).o
theorem aQK{c:Fm->Bool × Rn}{f:Fm->Fm}(hc:∀ m,Mn m.run (c m).2)(hf:∀ m,Mn m.run (f m).run):∀ (n:Nat) (m:Fm),Mn m.run (mC c f n m).run:=by
 intro n
 induction n with
 |zero=>intro m;exact Mn.refl _
 |succ n ih=>
  intro m;have h1:=Mn.burn m.run;have h2:=hc {m with run:=m.run.burn};have h3:=hf {m with run:=(c {m with run:=m.run.burn}).2};have h4:=ih (f {m with run:=(c {m with run:=m.run.burn}).2});unfold mC
  split
  ·split
   ·split
    ·exact((h1.trans h2).trans h3).trans h4
    ·exact(h1.trans h2).trans h3
   ·exact h1.trans h2
  ·exact h1
theorem aBQ(hC:COk C):∀ (n:Nat) (t:Tr),szT t<=n->(Ws 2 t->∀ m,Mo m.run (stW lens C t m).run)/\(Ws 4 t\/Ws 14 t->∀ m,Mn m.run (stW lens C t m).run):=by
 intro n
 induction n with
 |zero=>intro t h;cases t<;>simp[szT]at h
 |succ n ih=>
  intro t k0;cases t with
  |nil=>exact⟨fun h=>absurd h (by unfold Ws bK;omega),fun _ m=>Mn.refl _⟩
  |node b o a l q=>
   have hl:szT l<=n/\szT q<=n:=by simp only[szT]at k0;omega
   refine⟨fun hw m=>?_,fun hw m=>?_⟩
   ·obtain⟨t1,t2⟩:=jR hw;obtain⟨_,x,y,h0,hwl,h4⟩:=hw.parts;have e1:=lQ (lens:=lens) (vars:=m.vars) hC l m.run;have e2:=lQ (lens:=lens) (vars:=m.vars) hC q (exW lens C m.vars l m.run).2;have c1:=zZ (lens:=lens) (vars:=m.vars) hC l m.run;unfold stW;rw[Oh,Oh]
    split
    ·exact e1.o
    split
    ·split
     ·have:=(e1.trans e2).o;exact⟨this.fuel,this.calls,this.outs⟩
     ·exact((e1.trans e2).trans (Mn.trap _ _)).o
    split
    ·rename_i k11;rw[k11]at h0;cases h0;cases q with
     |nil=>exact(Mn.refl _).o
     |node x y z p s=>
      obtain⟨_,sp,sq,h3,h7,h5⟩:=h4.parts
      have hz:z.tag=18:=by
       by_cases h:z.tag=18
       ·exact h
       ·exfalso;simp[sig,h]at h3
      rw[hz]at h3;cases h3;have hs:szT p<=n/\szT s<=n:=by have:=hl.2;simp only[szT]at this;omega
      show Mo m.run (if _ then _ else _:Fm).run
      split
      ·exact(c1.trans ((ih p hs.1).2 (.inl h7) {m with run:=(cdW lens C m.vars l m.run).2})).o
      ·exact(c1.trans ((ih s hs.2).2 (.inl h5) {m with run:=(cdW lens C m.vars l m.run).2})).o
    split
    ·rename_i k12;rw[k12]at h0;cases h0;exact(aQK (fun m=>zZ hC l m.run) (fun m=>(ih q hl.2).2 (.inl h4) m) _ m).o
    split
    ·exact e1.o
    split
    ·exact e1.and (aSL _ _)
    ·exact(Mn.refl _).o
   ·rcases hw with hw|hw
    ·obtain⟨b2,o2,a2,l2,e,k1,h9⟩:=(hw.lst Ow).resolve_left (by intro h;cases h);simp only[BT.node.injEq]at e;obtain⟨rfl,rfl,rfl,rfl,rfl⟩:=e;unfold stW;rw[if_pos (.inl k1)];exact(ih l hl.1).2 (.inr h9) m
    ·obtain⟨k2,h8,h6⟩:=aY Ow hw;have h1:=(ih l hl.1).1 h8 {m with run:=m.run.burn};have h2:=(ih q hl.2).2 (.inr h6) (stW lens C l {m with run:=m.run.burn});unfold stW;rw[Oh,if_pos k2]
     split
     ·rename_i hb
      split
      ·exact(Mo.burnt hb h1).trans h2
      ·exact Mo.burnt hb h1
     ·exact Mn.burn _
theorem aOA{B:Tr->Fm->Fm}{e:Tr}(hB:∀ m,Mn m.run (B (bG e) m).run)(vars:Nat->Int)(r:Rn):Mn r (enW B e vars r).2:=by
 have h0:Mn r (if r.calls=60 then r.stop 4 else r):=by
  split
  ·exact Mn.stop _ _
  ·exact Mn.refl _
 unfold enW;dsimp only;generalize (if r.calls=60 then r.stop 4 else r)=r0 at h0 ⊢;have h1:({r0 with calls:=r.calls+1}:Rn).burn.calls=r.calls+1:=(Mn.burn _).calls;have hb:=Mn.burn ({r0 with calls:=r.calls+1}:Rn)
 split
 ·have h2:=hB ⟨true,vars,0,({r0 with calls:=r.calls+1}:Rn).burn⟩;have h3:=hb.trans h2;have g1:=h3.fuel;have g2:=h3.calls;have g3:=h3.outs;have g4:=h0.fuel;have g5:=h0.outs;dsimp only at g1 g2 g3 ⊢;exact⟨by show _<=r.fuel;exact Qd g1 g4,by show _ - 1=r.calls;omega,by show _+_<=r.outs.length+r.fuel;exact Qd g3 g5⟩
 ·have g1:=hb.fuel;have g3:=hb.outs;have g4:=h0.fuel;have g5:=h0.outs;dsimp only at g1 g3 ⊢;exact⟨by show _<=r.fuel;exact Qd g1 g4,by show _ - 1=r.calls;omega,by show _+_<=r.outs.length+r.fuel;exact Qd g3 g5⟩
theorem aTA{fl:List Tr}(h0:∀ e∈fl,Ws 4 (bG e)):∀ d,COk (clW lens fl d):=by
 have body:∀ k:Int,Ws 4 (bG (fl.getD k.toNat .nil)):=by
  intro k;rw[List.getD_eq_getElem?_getD];cases h:fl[k.toNat]? with
  |none=>show bK 4;unfold bK;omega
  |some e=>exact h0 e (Qi h)
 have tr:∀ (c:Bool) (r:Rn) (s:Int),Mn r (if c then r else r.trap s):=by
  intro c r s;cases c
  ·exact Mn.trap _ _
  ·exact Mn.refl _
 intro d
 induction d with
 |zero=>intro k l s r;exact(tr _ r s).trans (aOA (fun m=>Mn.refl _) _ _)
 |succ d ih=>intro k l s r;exact(tr _ r s).trans (aOA (fun m=>(aBQ ih _ _ Ol).2 (.inl (body k)) m) _ _)
end
section
open Go.RowKit Go.Lib Go.Deep Go.ChangeMaps Go.MapKept
variable {C:Cl} {vars:Nat->Int} {B pb rb fb d:Nat} {r:Rn} {w w' u:World} {value:Int} {al fl:List Tr}
def iC(B pb rb fb:Nat)(m:Fm)(w:World):Ending->World->Prop:=fun e w'=>e= .returned (.bool m.on)/\RnW B pb rb m.run w'/\FmW rb fb m.vars m.value w'/\Wy B rb fb w w'
def GSt(f B pb d:Nat)(C:Cl)(al fl:List Tr)(val:Tr->Value)(t:Tr):Prop:=
 ∀ rb fb vars value r w,XW B pb rb fb d al fl vars value r w->IsT w t->Calls Tryz.prog f #[.pointer (some ⟨fb,0,none⟩),val t] w (iC B pb rb fb (stW (bCG al) C t ⟨true,vars,value,r⟩) w)
theorem RnW.calls1(h:RnW B pb rb r w){n:Nat}(hn:n<=61):RnW B pb rb {r with calls:=n} (w.setCell ⟨rb,386,none⟩ (.int .i64 n)):=h.put ⟨h.few.1,hn⟩ rfl (fun _ _ hc=>hc.setCalls n)
theorem aO8{cb:Nat}(r0:Rn)(h1:r0=(if r.calls=60 then r.stop 4 else r))(hb:({r0 with calls:=r.calls+1}:Rn).burns=false)(w:World)(h:XW B pb rb fb d al fl vars 0 r w):
 Calls Tryz.prog 79 #[.pointer (some ⟨fb,0,none⟩),.pointer (some ⟨cb,0,none⟩)] w fun e w'=>e= .returned (.int .i64 0)/\RnW B pb rb {({r0 with calls:=r.calls+1}:Rn).burn with calls:=({r0 with calls:=r.calls+1}:Rn).burn.calls - 1} w'/\Wx B rb w w':=by
 have hcl:=h.bd.calls;obtain⟨f0,_,_,_⟩:=h.fm.cells;obtain⟨_,_,c6,_,_,_⟩:=h.rn.cells;have h8:({r0 with calls:=r.calls+1}:Rn).burn.calls=r.calls+1:=(Mn.burn _).calls
 have h0:Hid (∀ w2,Wx B rb w w2->w2.cell? ⟨fb,0,none⟩=some (.pointer (some ⟨rb,0,none⟩))/\w2.cell? ⟨fb,13,none⟩=some (.int .i64 0)):=fun w2 hx=>by
  have:=(h.fm.wx hx (h.fm.ne h.rn)).cells;exact⟨this.1,this.2.1⟩
 have k1:Hid (RnW B pb rb r w):=h.rn
 have REST:Hid (∀ w2,RnW B pb rb r0 w2->RnW B pb rb {r0 with calls:=r.calls+1} (w2.setCell ⟨rb,386,none⟩ (.int .i64 ((r.calls:Int)+1)))):=fun w2 h2=>by
  rw[show((r.calls:Int)+1)=((r.calls+1:Nat):Int)by omega];exact h2.calls1 Oa
 have LAST:Hid (∀ w2,RnW B pb rb ({r0 with calls:=r.calls+1}:Rn).burn w2->RnW B pb rb {({r0 with calls:=r.calls+1}:Rn).burn with calls:=({r0 with calls:=r.calls+1}:Rn).burn.calls - 1} (w2.setCell ⟨rb,386,none⟩ (.int .i64 (r.calls:Int)))):=fun w2 h2=>by
  rw[h8,show r.calls+1 - 1=r.calls by omega];exact h2.calls1 Oa
 have hcI:(r.calls:Int)<=60/\0<=(r.calls:Int):=Oa
 have HB:Hid _:=hb;have k3:Hid _:=h8;clear hb h8 h
 by_cases h7:r.calls=60
 ·have t60:((r.calls:Int)==60)=true:=by simp[h7]
  rw[if_pos h7]at h1;have k4:Hid (r0.calls=r.calls):=by rw[Hid,h1];exact(Mn.stop _ _).calls
  have HS:Hid (Calls Tryz.prog 78 #[.pointer (some ⟨rb,0,none⟩),.int .i64 4] w fun e w'=>e= .returned (.tuple #[])/\RnW B pb rb r0 w'/\Wx B rb w w'):=by rw[Hid,h1];exact pD 4 w k1.out
  clear h1 h7;go_enter Tryz.func79,Tryz.ntmps79
  go_wp2_with fail
  refine HS.out.mono ?_;rintro e W2 ⟨rfl,h2,x2⟩;obtain⟨f2,_⟩:=h0.out W2 x2;obtain⟨_,_,k6,_,_,z2⟩:=h2.cells;rw[k4.out]at k6;have h3:=REST.out W2 h2;have x3:=x2.set 386 (.int .i64 ((r.calls:Int)+1));obtain⟨f3,_⟩:=h0.out _ x3;have h6:=rH _ h3;rw[HB.out]at h6;have k0:Hid _:=x3;clear h2 x2 h3 x3 f0 c6;go_wp2_with fail
  refine h6.mono ?_;rintro e W4 ⟨rfl,h4,x4⟩;have x4':=k0.out.trans x4;obtain⟨f4,v4⟩:=h0.out W4 x4';obtain⟨_,_,k7,_,_,z4⟩:=h4.cells;rw[k3.out]at k7;have k7:W4.cell? ⟨rb,386,none⟩=some (.int .i64 ((r.calls:Int)+1)):=by rw[k7];simp
  have h5:=LAST.out W4 h4;have x5:=x4'.set 386 (.int .i64 (r.calls:Int));obtain⟨f5,v5⟩:=h0.out _ x5;have k2:Hid _:=h5;have h9:Hid _:=x5;clear h4 x4 x4' h5 x5;go_wp2;go_ret;exact⟨rfl,k2.out,h9.out⟩
 ·have t60:((r.calls:Int)==60)=false:=by simp;omega
  rw[if_neg h7]at h1;subst h1;clear h7;have h3:=REST.out w k1.out;have x3:=(Wx.refl B rb w).set 386 (.int .i64 ((r0.calls:Int)+1));obtain⟨f3,_⟩:=h0.out _ x3;obtain⟨_,_,_,_,_,z1⟩:=k1.out.cells;have h6:=rH _ h3;rw[HB.out]at h6;have k0:Hid _:=x3;clear h3 x3;go_enter Tryz.func79,Tryz.ntmps79
  go_wp2_with fail
  refine h6.mono ?_;rintro e W4 ⟨rfl,h4,x4⟩;have x4':=k0.out.trans x4;obtain⟨f4,v4⟩:=h0.out W4 x4';obtain⟨_,_,k7,_,_,z4⟩:=h4.cells;rw[k3.out]at k7;have k7:W4.cell? ⟨rb,386,none⟩=some (.int .i64 ((r0.calls:Int)+1)):=by rw[k7];simp
  have h5:=LAST.out W4 h4;have x5:=x4'.set 386 (.int .i64 (r0.calls:Int));obtain⟨f5,v5⟩:=h0.out _ x5;have k2:Hid _:=h5;have h9:Hid _:=x5;clear h4 x4 x4' h5 x5;go_wp2;go_ret;exact⟨rfl,k2.out,h9.out⟩
end
section
open Go.RowKit Go.Lib Go.Deep Go.ChangeMaps Go.MapKept
variable {C:Cl} {vars:Nat->Int} {B pb rb fb d:Nat} {r:Rn} {w w' u:World} {value:Int} {al fl:List Tr}
theorem aKG{cb:Nat}{q:Tr}(k3:r.calls≠60)(hb:({r with calls:=r.calls+1}:Rn).burns=true)(k1:Ws 4 q)(hB:GSt 132 B pb d C al fl bCH q)(m:Fm)(hm:m=stW (bCG al) C q ⟨true,vars,0,({r with calls:=r.calls+1}:Rn).burn⟩)(k0:Mn ({r with calls:=r.calls+1}:Rn).burn m.run)(w:World)(h:XW B pb rb fb (d+1) al fl vars 0 r w)(hi:IsT w q)(hF:At w cb 105 (fun cs=>cs[5]?=some (bCH q))):
 Calls Tryz.prog 79 #[.pointer (some ⟨fb,0,none⟩),.pointer (some ⟨cb,0,none⟩)] w fun e w'=>e= .returned (.int .i64 m.value)/\RnW B pb rb {m.run with calls:=m.run.calls - 1} w'/\Wy B rb fb w w':=by
 have hcl:=h.bd.calls;obtain⟨f0,_,_,_⟩:=h.fm.cells;obtain⟨_,_,c6,_,_,z1⟩:=h.rn.cells;obtain⟨ao,cp,h1⟩:=k1.lstval Ow;have h7:m.run.calls=r.calls+1:=k0.calls.trans (Mn.burn _).calls;have t60:((r.calls:Int)==60)=false:=by simp;omega
 have hcI:(r.calls:Int)<=60/\0<=(r.calls:Int):=Oa
 have h3:RnW B pb rb {r with calls:=r.calls+1} (w.setCell ⟨rb,386,none⟩ (.int .i64 ((r.calls:Int)+1))):=by
  rw[show((r.calls:Int)+1)=((r.calls+1:Nat):Int)by omega];exact h.rn.calls1 Oa
 have x3:=(Wx.refl B rb w).set 386 (.int .i64 ((r.calls:Int)+1));have fm3:=h.fm.wx x3 (h.fm.ne h.rn);have f3:=fm3.cells.1;have h8:=rH _ h3;rw[hb]at h8
 have k9:Hid (∀ W4,RnW B pb rb ({r with calls:=r.calls+1}:Rn).burn W4->Wx B rb w W4->Calls Tryz.prog 132 #[.pointer (some ⟨fb,0,none⟩),.slice ao (aD q) cp] W4 (iC B pb rb fb m W4)/\W4.cell? ⟨cb,5,none⟩=some (.slice ao (aD q) cp)/\W4.cell? ⟨fb,0,none⟩=some (.pointer (some ⟨rb,0,none⟩))):=fun W4 h4 x4=>by
  have fm4:=h.fm.wx x4 (h.fm.ne h.rn);have h0:=hb;unfold Rn.burns at h0;simp only[Bool.and_eq_true,decide_eq_true_eq]at h0;have e:({r with calls:=r.calls+1}:Rn).burn={r with calls:=r.calls+1,fuel:=r.fuel - 1}:=by unfold Rn.burn;rw[if_neg h0.1,if_pos h0.2]
  have k2:Bd d ({r with calls:=r.calls+1}:Rn).burn:=by
   rw[e];have g1:=h.bd.outs;have g2:=h.bd.fuel;exact⟨by show r.calls+1<=60;omega,by show r.outs.length+(r.fuel - 1)<=20000;omega,by show r.fuel - 1<=d;omega⟩
  have:=hB rb fb vars 0 _ W4 ⟨h4,fm4,h.pg.wx h.rn x4,k2⟩ (IsT.wx h.rn x4 hi);rw[<-hm,h1]at this;obtain⟨cs,hc,h5⟩:=At.wx hF h.rn x4 Ob Ob;exact⟨this,by rw[cell_of_row _ _ _ _ _ _ hc,<-h1];exact h5,fm4.cells.1⟩
 have LAST:Hid (∀ w2,RnW B pb rb m.run w2->RnW B pb rb {m.run with calls:=m.run.calls - 1} (w2.setCell ⟨rb,386,none⟩ (.int .i64 (r.calls:Int)))):=fun w2 h2=>by
  rw[h7,show r.calls+1 - 1=r.calls by omega];exact h2.calls1 Oa
 have k5:Hid _:=x3;have k6:Hid _:=h7;clear h h3 x3 fm3 hB hm k0 hi hF hb h7 k3 h1;go_enter Tryz.func79,Tryz.ntmps79
 go_wp2_with fail
 refine h8.mono ?_;rintro e W4 ⟨rfl,h4,x4⟩;have x4':=k5.out.trans x4;obtain⟨h9,c5,f4⟩:=k9.out W4 h4 x4';have k4:Hid _:=x4';clear h4 x4 x4' h8;go_wp2_with fail
 refine h9.mono ?_;rintro e W5 ⟨rfl,h5,fm5,y5⟩;obtain⟨_,_,k7,_,_,z4⟩:=h5.cells;rw[k6.out]at k7;have k7:W5.cell? ⟨rb,386,none⟩=some (.int .i64 ((r.calls:Int)+1)):=by rw[k7];simp
 have h6:=LAST.out W5 h5;have x6:=(Wx.refl B rb W5).set 386 (.int .i64 (r.calls:Int));obtain⟨f5,_,_,_⟩:=fm5.cells;obtain⟨f6,v6,_,_⟩:=(fm5.wx x6 (fm5.ne h5)).cells;have k8:Hid _:=h6;have HY:Hid (Wy B rb fb w (W5.setCell ⟨rb,386,none⟩ (.int .i64 (r.calls:Int)))):=(k4.out.y.trans y5).trans x6.y;clear h5 y5 h6 x6 fm5;go_wp2;go_ret;exact⟨rfl,k8.out,HY.out⟩
end
section
open Go.RowKit Go.Lib Go.Deep Go.ChangeMaps Go.MapKept
variable {C:Cl} {vars:Nat->Int} {B pb rb fb d:Nat} {r:Rn} {w w' u:World} {value:Int} {al fl:List Tr}
theorem XW.wy(h:XW B pb rb fb d al fl vars value r w){r':Rn}{vars':Nat->Int}{value':Int}(hr:RnW B pb rb r' w')(hf:FmW rb fb vars' value' w')(hx:Wy B rb fb w w')(hm:Mn r r'):XW B pb rb fb d al fl vars' value' r' w':=
 ⟨hr,hf,h.pg.wy h.rn h.fm hx,h.bd.mn hm⟩
theorem aKR(hb:r.burns=true):r.burn.fuel < r.fuel:=by
 unfold Rn.burns at hb;simp only[Bool.and_eq_true,decide_eq_true_eq]at hb;have e:r.burn={r with fuel:=r.fuel - 1}:=by unfold Rn.burn;rw[if_neg hb.1,if_pos hb.2]
 rw[e];show r.fuel - 1 < r.fuel;omega
theorem aPA{b o:Nat}{a:Nd}{l q:Tr}(ht:a.tag=12)(hC:COk C)(hl:Ws 1 l/\GB 257 B pb d C al fl bCH l)(hq:Ws 4 q/\GSt 132 B pb d C al fl bCH q):
 GSt 258 B pb d C al fl cB (.node b o a l q):=by
 intro rb fb vars value r w h hi;obtain⟨y5,y7⟩:=hl;obtain⟨k3,y6⟩:=hq;obtain⟨u,p,k5⟩:=y5.val Ow;obtain⟨ao,cp,k4⟩:=k3.lstval Ow
 have own2:∀ W,Own W b a l q->W.cell? ⟨b,0,none⟩=some (.iface u (.pointer (some p)))/\W.cell? ⟨b,1,none⟩=some (.slice ao (aD q) cp):=fun W ho=>by
  obtain⟨cs,hc,h2,h3⟩:=aI ho (n:=12) ht;exact⟨by rw[cell_of_row _ _ _ _ _ _ hc,<-k5];exact h2,by rw[cell_of_row _ _ _ _ _ _ hc,<-k4];exact h3⟩
 have hX:stW (bCG al) C (.node b o a l q) ⟨true,vars,value,r⟩=mC (fun m=>cdW (bCG al) C m.vars l m.run) (stW (bCG al) C q) (r.fuel+1) ⟨true,vars,value,r⟩:=by
  conv=>lhs;unfold stW
  rw[Oh,Oh,Oh,Oh,Oh,if_pos ht]
 rw[hX]
 have y3:Hid (∀ vars' value' r' W,XW B pb rb fb d al fl vars' value' r' W->IsT W (.node b o a l q)->Calls Tryz.prog 257 #[.pointer (some ⟨fb,0,none⟩),.iface u (.pointer (some p))] W (aIC B pb rb (cdW (bCG al) C vars' l r').1 (cdW (bCG al) C vars' l r').2 W)):=fun vars' value' r' W h2 i2=>by
  have:=y7 rb fb vars' value' r' W h2 i2.1;rw[k5]at this;exact this
 have y8:Hid (∀ vars' value' r' W,XW B pb rb fb d al fl vars' value' r' W->IsT W (.node b o a l q)->Calls Tryz.prog 132 #[.pointer (some ⟨fb,0,none⟩),.slice ao (aD q) cp] W (iC B pb rb fb (stW (bCG al) C q ⟨true,vars',value',r'⟩) W)):=fun vars' value' r' W h2 i2=>by
  have:=y6 rb fb vars' value' r' W h2 i2.2.1;rw[k4]at this;exact this
 have z1:Hid (∀ vars' r',Mn r' (cdW (bCG al) C vars' l r').2):=fun vars' r'=>zZ hC l r';have z2:Hid (∀ m,Mn m.run (stW (bCG al) C q m).run):=fun m=>(aBQ hC _ q Ol).2 (.inl k3) m;have HO:Hid _:=own2;obtain⟨F,hF⟩:∃ F,F=mC (fun m=>cdW (bCG al) C m.vars l m.run) (stW (bCG al) C q) (r.fuel+1) ⟨true,vars,value,r⟩:=⟨_,rfl⟩;rw[<-hF]
 have L0:∃ vars' value' r',F=mC (fun m=>cdW (bCG al) C m.vars l m.run) (stW (bCG al) C q) (r.fuel+1) ⟨true,vars',value',r'⟩/\r'.fuel < r.fuel+1/\XW B pb rb fb d al fl vars' value' r' w/\IsT w (.node b o a l q)/\Wy B rb fb w w:=
  ⟨vars,value,r,hF,Oa,h,hi,Wy.refl _ _ _ _⟩
 show Calls Tryz.prog 258 #[.pointer (some ⟨fb,0,none⟩),.pointer (some ⟨b,0,none⟩)] w _;generalize cdW (bCG al) C=cF at*;generalize stW (bCG al) C=sF at*;clear hX hF y7 y6 h hi own2 y5 k3 k5 k4 ht hC;go_enter Tryz.func258,Tryz.ntmps258
 go_wp2_with fail
 go_loopg [] (r.fuel+1) (fun n wr=>∃ vars' value' r',F=mC (fun m=>cF m.vars l m.run) (sF q) n ⟨true,vars',value',r'⟩/\r'.fuel < n/\XW B pb rb fb d al fl vars' value' r' wr/\IsT wr (.node b o a l q)/\Wy B rb fb w wr)
 case atStart=>exact L0
 case round=>
  clear L0;obtain⟨vars',value',r',hF,h9,X,h7,hy⟩:=hrel;obtain⟨m,rfl⟩:=Oj gk;have f0:=X.fm.cells.1;have h5:=rH wr X.rn
  have hF:F=if r'.burns then
   (if(cF vars' l r'.burn).1 then
     (if(sF q ⟨true,vars',value',(cF vars' l r'.burn).2⟩).on then mC (fun m=>cF m.vars l m.run) (sF q) m (sF q ⟨true,vars',value',(cF vars' l r'.burn).2⟩)else sF q ⟨true,vars',value',(cF vars' l r'.burn).2⟩)
    else⟨true,vars',value',(cF vars' l r'.burn).2⟩)
   else⟨true,vars',value',r'.burn⟩:=hF
  have HX:Hid _:=X;have y1:Hid _:=h7;have HY:Hid _:=hy;cases hb:r'.burns
  ·rw[if_neg (by rw[hb];decide)]at hF;rw[hb]at h5;have HF:Hid _:=hF;clear hF X h7 hy hb;go_wp2_with fail
   refine h5.mono ?_;rintro e W2 ⟨rfl,h2,x2⟩
   have fin:Hid (iC B pb rb fb F w (.returned (.bool true)) W2):=by
    rw[Hid,HF.out];exact⟨rfl,h2,HX.out.fm.wx x2 (HX.out.fm.ne HX.out.rn),HY.out.trans x2.y⟩
   clear h2 x2;go_wp2;go_ret;exact fin.out
  ·rw[if_pos hb]at hF;rw[hb]at h5;have HB:Hid (r'.burn.fuel < r'.fuel):=aKR hb;have k8:=Mn.burn r';have k7:=z1.out vars' r'.burn;have k6:=z2.out ⟨true,vars',value',(cF vars' l r'.burn).2⟩;have z0:Hid (r'.fuel < m+1):=h9;cases hc:(cF vars' l r'.burn).1
   ·rw[if_neg (by rw[hc];decide)]at hF;have HF:Hid _:=hF;have k2:Hid _:=hc;clear hF X h7 hy hb hc h9;go_wp2_with fail
    refine h5.mono ?_;rintro e W2 ⟨rfl,h2,x2⟩;have X2:=HX.out.wx h2 x2 k8;have i2:IsT W2 (.node b o a l q):=IsT.wx HX.out.rn x2 y1.out;obtain⟨n0,n1⟩:=HO.out W2 i2.2.2;have h0:=y3.out vars' value' _ W2 X2 i2;rw[k2.out]at h0;have h6:Hid _:=X2;have h8:Hid _:=HY.out.trans x2.y;clear h2 x2 X2 i2 n1 h5;go_wp2_with fail
    refine h0.mono ?_;rintro e W3 ⟨rfl,h3,x3⟩
    have fin:Hid (iC B pb rb fb F w (.returned (.bool true)) W3):=by
     rw[Hid,HF.out];exact⟨rfl,h3,h6.out.fm.wx x3 (h6.out.fm.ne h6.out.rn),h8.out.trans x3.y⟩
    clear h3 x3;go_wp2;go_ret;exact fin.out
   ·rw[if_pos hc]at hF;generalize hM:sF q ⟨true,vars',value',(cF vars' l r'.burn).2⟩=M at*;obtain⟨on,mv,mx,mr⟩:=M;dsimp only at hF k6;have k2:Hid _:=hc;have HM:Hid _:=hM;cases on
    ·rw[if_neg Ob]at hF;have HF:Hid _:=hF;clear hF X h7 hy hb hc h9 hM;go_wp2_with fail
     refine h5.mono ?_;rintro e W2 ⟨rfl,h2,x2⟩;have X2:=HX.out.wx h2 x2 k8;have i2:IsT W2 (.node b o a l q):=IsT.wx HX.out.rn x2 y1.out;obtain⟨n0,n1⟩:=HO.out W2 i2.2.2;have h0:=y3.out vars' value' _ W2 X2 i2;rw[k2.out]at h0;have h6:Hid _:=X2;have y2:Hid _:=i2;have h8:Hid _:=HY.out.trans x2.y;clear h2 x2 X2 i2 n1 h5;go_wp2_with fail
     refine h0.mono ?_;rintro e W3 ⟨rfl,h3,x3⟩;have X3:=h6.out.wx h3 x3 k7;have i3:IsT W3 (.node b o a l q):=IsT.wx h6.out.rn x3 y2.out;obtain⟨k0,k1⟩:=HO.out W3 i3.2.2;have h1:=y8.out vars' value' _ W3 X3 i3;rw[HM.out]at h1;have k9:Hid _:=h8.out.trans x3.y;clear h3 x3 X3 i3 k0 n0 h0;go_wp2_with fail
     refine h1.mono ?_;rintro e W4 ⟨rfl,h4,f4,y4⟩
     have fin:Hid (iC B pb rb fb F w (.returned (.bool false)) W4):=by
      rw[Hid,HF.out];exact⟨rfl,h4,f4,k9.out.trans y4⟩
     clear h4 f4 y4;go_wp2;go_ret;exact fin.out
    ·rw[if_pos rfl]at hF;have HF:Hid _:=hF;clear hF X h7 hy hb hc h9 hM;go_wp2_with fail
     refine h5.mono ?_;rintro e W2 ⟨rfl,h2,x2⟩;have X2:=HX.out.wx h2 x2 k8;have i2:IsT W2 (.node b o a l q):=IsT.wx HX.out.rn x2 y1.out;obtain⟨n0,n1⟩:=HO.out W2 i2.2.2;have h0:=y3.out vars' value' _ W2 X2 i2;rw[k2.out]at h0;have h6:Hid _:=X2;have y2:Hid _:=i2;have h8:Hid _:=HY.out.trans x2.y;clear h2 x2 X2 i2 n1 h5;go_wp2_with fail
     refine h0.mono ?_;rintro e W3 ⟨rfl,h3,x3⟩;have X3:=h6.out.wx h3 x3 k7;have i3:IsT W3 (.node b o a l q):=IsT.wx h6.out.rn x3 y2.out;obtain⟨k0,k1⟩:=HO.out W3 i3.2.2;have h1:=y8.out vars' value' _ W3 X3 i3;rw[HM.out]at h1;have y0:Hid _:=X3;have y9:Hid _:=i3;have k9:Hid _:=h8.out.trans x3.y;clear h3 x3 X3 i3 k0 n0 h0;go_wp2_with fail
     refine h1.mono ?_;rintro e W4 ⟨rfl,h4,f4,y4⟩
     have fin:∃ vars' value' r',F=mC (fun m=>cF m.vars l m.run) (sF q) m ⟨true,vars',value',r'⟩/\r'.fuel < m/\XW B pb rb fb d al fl vars' value' r' W4/\IsT W4 (.node b o a l q)/\Wy B rb fb w W4:=
      ⟨mv,mx,mr,HF.out,by have:=HB.out;have:=z0.out;have:=k7.fuel;have:=k6.fuel;omega,y0.out.wy h4 f4 y4 k6,IsT.wy y0.out.rn y0.out.fm y4 y9.out,k9.out.trans y4⟩
     clear h4 f4 y4;go_wp2;go_roundg m
     case rel=>exact fin
     case measure=>omega
end
section
open Go.RowKit Go.Lib Go.Deep Go.ChangeMaps Go.MapKept
variable {C:Cl} {vars:Nat->Int} {B pb rb fb d:Nat} {r:Rn} {w w' u:World} {value:Int} {al fl:List Tr}
theorem aPT{lens:Nat->Int}{t:Tr}(h:Ws 4 t)(m:Fm):stW lens C t m=stW lens C (bCF t) m:=by
 rcases h.lst (.inr Ox)with rfl|⟨b,o,a,l,rfl,ht,_⟩
 ·rfl
 ·exact if_pos (.inl ht)
theorem aI6{t:Tr}(h5:Ws 4 t)(hC:COk C)(hA:fE (fun e=>Ws 2 e/\GSt 201 B pb d C al fl bCH e) (bCF t)):GSt 132 B pb d C al fl bCH t:=by
 intro rb fb vars value r w h hi;obtain⟨ao,cp,k4⟩:=h5.lstval Ow;have hlen:=fB Ow h5;have h6:=h5.elems Ow;rw[aPT h5,k4];have y3:Hid (Ws 4 t):=h5;have HWE:Hid (Ws 14 (bCF t)):=h6;obtain⟨F,hF⟩:∃ F,F=stW (bCG al) C (bCF t) ⟨true,vars,value,r⟩:=⟨_,rfl⟩;rw[<-hF];have L0:∃ vars' value' r',F=stW (bCG al) C (aL 0 (bCF t)) ⟨true,vars',value',r'⟩/\XW B pb rb fb d al fl vars' value' r' w/\IsT w t/\Wy B rb fb w w:=⟨vars,value,r,hF,h,hi,Wy.refl _ _ _ _⟩;have y5:Hid (∀ e,Ws 2 e->∀ m,Mo m.run (stW (bCG al) C e m).run):=fun e he=>(aBQ hC _ e Ol).1 he;clear h5 h6 hF h hi hC;go_enter Tryz.func132,Tryz.ntmps132
 go_wp2_with fail
 go_loopg [9] (aD t) (fun m v wr=>∃ i:Nat,v= .int .i64 i/\i<=aD t/\aD t<=i+m/\∃ vars' value' r',F=stW (bCG al) C (aL i (bCF t)) ⟨true,vars',value',r'⟩/\XW B pb rb fb d al fl vars' value' r' wr/\IsT wr t/\Wy B rb fb w wr)
 case atStart=>exact⟨0,rfl,Qe _,Oa,L0⟩
 case round=>
  clear L0;obtain⟨i,rfl,hle,hm,vars',value',r',hF,X,h7,hy⟩:=hrel
  by_cases y0:i < aD t
  ·have k1:(i:Int) < (aD t:Int):=Oa
   obtain⟨b2,o2,a2,e2,r2,hd,k2⟩:=dK i (bCF t) (by rw[<-aT];exact y0);have k6:=fE.drop i _ hA;rw[hd]at k6 hF;obtain⟨k3,⟨hE,hG⟩,_⟩:=k6
   obtain⟨gg,rfl,h8⟩:=gQ (H:=0) Ow y3.out h7 (Fr.refl 0 F0 wr) F0.body k4 hd (by
    cases e2 with
    |nil=>exact absurd hE (by unfold Ws bK;omega)
    |node b o a l r=>
     have:=jR hE;exact⟨b,o,a,l,r,rfl,Oa,Oa⟩)
   obtain⟨u,p,k0⟩:=hE.val Ov;rw[k0]at h8
   have e2T:∀ W,IsT W t->IsT W e2:=fun W hW=>by
    have h1:IsT W (bCF t):=by
     cases t with
     |nil=>trivial
     |node=>exact hW.1
    have h2:=nQ i _ h1;rw[hd]at h2;exact h2.1
   have f0:=X.fm.cells.1;have h3:=rH wr X.rn
   have hF:F=if r'.burns then(if(stW (bCG al) C e2 ⟨true,vars',value',r'.burn⟩).on then stW (bCG al) C r2 (stW (bCG al) C e2 ⟨true,vars',value',r'.burn⟩)else stW (bCG al) C e2 ⟨true,vars',value',r'.burn⟩)else⟨false,vars',value',r'.burn⟩:=by
    rw[hF]
    conv=>lhs;unfold stW
    rw[Oh,if_pos k3]
   have HX:Hid _:=X;have k7:Hid _:=h7;have HY:Hid _:=hy;have k9:Hid _:=e2T;have y8:Hid (aL (i+1) (bCF t)=r2):=k2;cases hb:r'.burns
   ·rw[if_neg (by rw[hb];decide)]at hF;rw[hb]at h3;have HF:Hid _:=hF;clear hF X h7 hy hb hG hE hd k2 e2T k3;go_wp2_with fail
    refine h3.mono ?_;rintro e W2 ⟨rfl,h2,x2⟩
    have fin:Hid (iC B pb rb fb F w (.returned (.bool false)) W2):=by
     rw[Hid,HF.out];exact⟨rfl,h2,HX.out.fm.wx x2 (HX.out.fm.ne HX.out.rn),HY.out.trans x2.y⟩
    clear h2 x2;go_wp2;go_ret;exact fin.out
   ·rw[if_pos hb]at hF;rw[hb]at h3;have k5:=Mn.burn r';have y6:Hid (Mn r' (stW (bCG al) C e2 ⟨true,vars',value',r'.burn⟩).run):=Mo.burnt hb (y5.out e2 hE ⟨true,vars',value',r'.burn⟩)
    have k8:Hid (∀ W,XW B pb rb fb d al fl vars' value' r'.burn W->IsT W e2->Calls Tryz.prog 201 #[.pointer (some ⟨fb,0,none⟩),.iface u (.pointer (some p))] W (iC B pb rb fb (stW (bCG al) C e2 ⟨true,vars',value',r'.burn⟩) W)):=fun W hW h2=>by
     have:=hG rb fb vars' value' _ W hW h2;rw[k0]at this;exact this
    generalize stW (bCG al) C e2 ⟨true,vars',value',r'.burn⟩=M at*;obtain⟨on,mv,mx,mr⟩:=M;dsimp only at hF;clear X h7 hy hb hG hE hd k2 e2T k3 k0;cases on
    ·rw[if_neg Ob]at hF;have HF:Hid _:=hF;clear hF;go_wp2_with fail
     refine h3.mono ?_;rintro e W2 ⟨rfl,h2,x2⟩;have h0:=k8.out W2 (HX.out.wx h2 x2 k5) (k9.out W2 (IsT.wx HX.out.rn x2 k7.out));have y1:Hid _:=HY.out.trans x2.y;clear h2 x2 h3;go_wp2_with fail
     refine h0.mono ?_;rintro e W4 ⟨rfl,h4,f4,y4⟩
     have fin:Hid (iC B pb rb fb F w (.returned (.bool false)) W4):=by
      rw[Hid,HF.out];exact⟨rfl,h4,f4,y1.out.trans y4⟩
     clear h4 f4 y4;go_wp2;go_ret;exact fin.out
    ·rw[if_pos rfl]at hF;have HF:Hid _:=hF;clear hF;go_wp2_with fail
     refine h3.mono ?_;rintro e W2 ⟨rfl,h2,x2⟩;have X2:=HX.out.wx h2 x2 k5;have i2:=IsT.wx HX.out.rn x2 k7.out;have h0:=k8.out W2 X2 (k9.out W2 i2);have h9:Hid _:=X2;have y7:Hid _:=i2;have y2:Hid _:=x2;clear h2 x2 h3 X2 i2;go_wp2_with fail
     refine h0.mono ?_;rintro e W4 ⟨rfl,h4,f4,y4⟩;obtain⟨m,rfl⟩:=Oj gk
     have fin:∃ i':Nat,Value.int .i64 ((i:Int)+1)= .int .i64 i'/\i'<=aD t/\aD t<=i'+m/\∃ vars' value' r',F=stW (bCG al) C (aL i' (bCF t)) ⟨true,vars',value',r'⟩/\XW B pb rb fb d al fl vars' value' r' W4/\IsT W4 t/\Wy B rb fb w W4:=
      ⟨i+1,Od,Oa,Oa,mv,mx,mr,by rw[y8.out];exact HF.out,⟨h4,f4,h9.out.pg.wy h9.out.rn h9.out.fm y4,HX.out.bd.mn y6.out⟩,IsT.wy h9.out.rn h9.out.fm y4 y7.out,(HY.out.trans y2.out.y).trans y4⟩
     clear h4 f4 y4;go_wp2;go_roundg m
     case rel=>exact fin
     case measure=>omega
  ·have k1: ¬(i:Int) < (aD t:Int):=Oa
   have fin:Hid (iC B pb rb fb F w (.returned (.bool true)) wr):=by
    rw[Hid,hF,show i=aO (bCF t)by rw[<-aT];omega,eS];exact⟨rfl,X.rn,X.fm,hy⟩
   clear X h7 hy hF;go_wp2;go_ret;exact fin.out
end
section
open Go.RowKit Go.Lib Go.Deep Go.ChangeMaps Go.MapKept
variable {lens:Nat->Int} {C:Cl} {vars:Nat->Int} {fl al:List Tr}
theorem wJ:∀ (t:Tr) (r:Rn),exW lens C vars (er t) r=exW lens C vars t r:=by
 intro t
 induction t with
 |nil=>intro r;rfl
 |node b o a l q ihl ihq=>intro r;simp only[er,exW,ihl,ihq]
theorem aCK:∀ (t:Tr) (r:Rn),cdW lens C vars (er t) r=cdW lens C vars t r:=by
 intro t
 induction t with
 |nil=>intro r;rfl
 |node b o a l q ihl ihq=>intro r;simp only[er,cdW,wJ,ihl,ihq]
theorem aLU:∀ (n:Nat) (t:Tr),szT t<=n->stW lens C (er t)=stW lens C t:=by
 intro n
 induction n with
 |zero=>intro t h;cases t<;>simp[szT]at h
 |succ n ih=>
  intro t h0;cases t with
  |nil=>rfl
  |node b o a l q=>
   have hl:szT l<=n/\szT q<=n:=by simp only[szT]at h0;omega
   funext m
   have e1:=ih l hl.1;have e2:=ih q hl.2;cases q with
   |nil=>simp only[er,stW,wJ,aCK,e1]
   |node x y z p s=>
    have hs:szT p<=n/\szT s<=n:=by have:=hl.2;simp only[szT]at this;omega
    have e3:=ih p hs.1;have e4:=ih s hs.2;show(if a.tag=20\/a.tag=18 then _ else _)=(if a.tag=20\/a.tag=18 then _ else _);rw[e1]
    split
    ·rfl
    split
    ·rw[e2]
    split
    ·rw[wJ]
    split
    ·simp only[wJ]
    split
    ·show(if(cdW lens C m.vars (er l) m.run).1 then stW lens C (er p) _ else stW lens C (er s) _)=_;rw[e3,e4,aCK]
    split
    ·rw[e2];simp only[aCK]
    split
    ·rw[wJ]
    split
    ·rw[wJ]
    ·rfl
theorem aFI:∀ (t:Tr),tkW vars (er t)=tkW vars t:=by
 intro t
 induction t with
 |nil=>rfl
 |node b o a l q ihl ihq=>simp only[er,tkW,aCK,ihl,ihq]
theorem mT(e:Tr):aU (er e)=er (aU e):=by
 cases e with
 |nil=>rfl
 |node b o a l q=>cases q<;>rfl
theorem wP(e:Tr):bG (er e)=er (bG e):=by
 cases e with
 |nil=>rfl
 |node b o a l q=>cases q<;>rfl
theorem aB1:bCG (al.map er)=bCG al:=by
 funext k
 unfold bCG;rw[List.getElem?_map];cases al[k]? with
 |none=>rfl
 |some e=>cases e<;>rfl
theorem xS(j:Nat):(fl.map er).getD j .nil=er (fl.getD j .nil):=by
 rw[List.getD_eq_getElem?_getD,List.getD_eq_getElem?_getD,List.getElem?_map];cases fl[j]?<;>rfl
theorem aGO{Bs Bb:Tr->Fm->Fm}{e:Tr}(h:Bs (bG (er e))=Bb (bG e)):enW Bs (er e)=enW Bb e:=by
 funext vars r
 unfold enW;rw[h]
theorem aTB:∀ d,clW lens (fl.map er) d=clW lens fl d:=by
 intro d
 induction d with
 |zero=>
  funext k l s r
  show enW _ ((fl.map er).getD k.toNat .nil) (cI l) (if tkW (cI l) (aU ((fl.map er).getD k.toNat .nil))then r else r.trap s)=_;rw[xS,mT,aFI];rw[aGO (Bs:=fun _ m=>m) (Bb:=fun _ m=>m) rfl];rfl
 |succ d ih=>
  funext k l s r
  show enW (stW lens (clW lens (fl.map er) d)) ((fl.map er).getD k.toNat .nil) (cI l) (if tkW (cI l) (aU ((fl.map er).getD k.toNat .nil))then r else r.trap s)=_;rw[xS,mT,aFI,ih];rw[aGO (Bs:=stW lens (clW lens fl d)) (Bb:=stW lens (clW lens fl d)) (by rw[wP];exact aLU _ _ Ol)];rfl
def nE(al fl:List Tr)(main:Tr)(args:List Int)(fuel:Int):Rs4:=
 if args.length≠gJ main\/tkW (cI args) (aU main)=false then⟨5,0,-1,[]⟩
 else
  let x:=enW (stW (bCG al) (clW (bCG al) fl (min (max fuel 0) 20000).toNat)) main (cI args) ⟨fun _=>0,(min (max fuel 0) 20000).toNat,0,0,-1,[]⟩
  if x.2.fin=0 then⟨1,x.1,x.2.site,x.2.outs⟩else⟨x.2.fin,0,x.2.site,x.2.outs⟩
theorem aQ3(main:Tr)(args:List Int)(fuel:Int):nE (al.map er) (fl.map er) (er main) args fuel=nE al fl main args fuel:=by
 unfold nE;rw[aHW,mT,aFI,aB1,aTB];rw[aGO (Bs:=stW (bCG al) (clW (bCG al) fl (min (max fuel 0) 20000).toNat)) (Bb:=stW (bCG al) (clW (bCG al) fl (min (max fuel 0) 20000).toNat)) (by rw[wP];exact aLU _ _ Ol)]
theorem aSD(t:Tr)(m:Int)(args:List Int)(fuel:Int):aTT t m args fuel=nE (aF 16 (bCF t)) (aF 17 (bCF t)) ((aF 17 (bCF t)).getD m.toNat .nil) args fuel:=rfl
variable {F:List Tr}
theorem aHU(k:Int):mG (F.map er) k=mG F k:=by
 unfold mG;rw[List.getElem?_map];cases F[k.toNat]? with
 |none=>rfl
 |some e=>
  cases e with
  |nil=>rfl
  |node b o a l q=>
   cases q with
   |nil=>rfl
   |node x y z p s=>exact qC p
theorem aMI:∀ (t:Tr) (S:Sl),siR (F.map er) t S=siR F t S:=by
 intro t
 induction t with
 |nil=>intro S;rfl
 |node b o a l r ihl ihr=>intro S;simp only[siR,bO,aHU,ihl,ihr]
theorem aFR:∀ (t:Tr) (S:Sl),siT (F.map er) t S=siT F t S:=by
 intro t
 induction t with
 |nil=>intro S;rfl
 |node b o a l r ihl ihr=>intro S;simp only[siT,bO,gI,aHU,aMI,ihl,ihr]
theorem uX(t:Tr):cR (er t)=(cR t).map er:=by unfold cR;rw[uJ,gT,uP]
theorem aIN{s:ByteArray}{t:Tr}(h:er t=rdT s):aFH s=er (siT (cR t) (dY t) []):=by
 unfold aFH;rw[<-h,uJ,aFS,uX,aFR]
theorem aH3{s:ByteArray}{t:Tr}(h:er t=rdT s)(args:List Int)(fuel:Int):kM s args fuel=nE (aF 16 (bCF (siT (cR t) (dY t) []))) (aF 17 (bCF (siT (cR t) (dY t) []))) ((aF 17 (bCF (siT (cR t) (dY t) []))).getD (qV t).toNat .nil) args fuel:=by
 unfold kM;rw[aIN h,<-h,aQ5,aSD,gT,uP,uP,xS,aQ3]
theorem yV(t:Tr)(S:Sl):aD (siT F t S)=aD t:=by
 cases t with
 |nil=>rfl
 |node b o a l r=>exact(gO F l _).lenL
theorem yR(t:Tr)(S:Sl):gJ (siT F t S)=gJ t:=by
 cases t with
 |nil=>rfl
 |node b o a l r=>exact yV l _
theorem Vd.si{par:Nat->Option Nat}{na nv:Nat}:∀ {t:Tr} (S:Sl),Vd par na nv t->Vd par na nv (siT F t S):=by
 intro t
 induction t with
 |nil=>intro S _;trivial
 |node b o a l r ihl ihr=>intro S h;exact⟨ihl _ h.1,ihr _ h.2.1,h.2.2.1,h.2.2.2.1,fun e=>by rw[yV];exact h.2.2.2.2 e⟩
theorem aKJ(t:Tr)(h:∀ b o a l r,t= .node b o a l r->a.tag=20)(S:Sl):bCF (siT F t S)=siT F (bCF t) S:=by
 cases t with
 |nil=>rfl
 |node b o a l r=>
  have:=h b o a l r rfl;rw[nI Oa];rfl
theorem aAN(t:Tr)(S:Sl):bN (siT F t S)=bN t:=by cases t<;>rfl
theorem yX(k:Nat):∀ (L:Tr) (S:Sl),Ws 18 L->∃ f:Nat->Sl,aF k (siT F L S)=((aF k L).zipIdx.map fun x=>siT F x.1 (f x.2)):=by
 intro L
 induction L with
 |nil=>intro S _;exact⟨fun _=>[],rfl⟩
 |node b o a e r _ ih=>
  intro S hw;obtain⟨h15,hwe,h0⟩:=aY Ot hw;rw[nI Oa];obtain⟨f,hf⟩:=ih (siR F e S) h0
  by_cases hk:bN e=k
  ·refine⟨fun i=>if i=0 then S else f (i - 1),?_⟩;have e1:aF k (.node b o a e r)=e::aF k r:=if_pos hk;have e2:aF k (.node b o a (siT F e S) (siT F r (siR F e S)))=siT F e S::aF k (siT F r (siR F e S)):=if_pos (by rw[aAN];exact hk);rw[e1,e2,hf,List.zipIdx_cons,List.map_cons,List.zipIdx_succ,List.map_map]
   congr 1
  ·refine⟨f,?_⟩;have e1:aF k (.node b o a e r)=aF k r:=if_neg hk;have e2:aF k (.node b o a (siT F e S) (siT F r (siR F e S)))=aF k (siT F r (siR F e S)):=if_neg (by rw[aAN];exact hk);rw[e1,e2,hf]
theorem mM{k:Nat}{L:Tr}{S:Sl}(hw:Ws 18 L){e:Tr}(h:e∈aF k (siT F L S)):∃ e0 S',e0∈aF k L/\e=siT F e0 S':=by
 obtain⟨f,hf⟩:=yX (F:=F) k L S hw;rw[hf,List.mem_map]at h;obtain⟨⟨x,i⟩,hx,rfl⟩:=h;exact⟨x,f i,List.fst_mem_of_mem_zipIdx hx,rfl⟩
theorem qD{k:Nat}{L:Tr}{S:Sl}(hw:Ws 18 L):(aF k (siT F L S)).map cB=(aF k L).map cB:=by
 obtain⟨f,hf⟩:=yX (F:=F) k L S hw;rw[hf,List.map_map]
 have:(cB∘fun x:Tr × Nat=>siT F x.1 (f x.2))=fun x=>cB x.1:=by
  funext x
  exact(gO F x.1 _).ptr
 rw[this,show(fun x:Tr × Nat=>cB x.1)=cB∘Prod.fst from rfl,<-List.map_map,List.zipIdx_map_fst]
end
end Go.Proofs.YtikffmloeifkpaaGreatDoor
