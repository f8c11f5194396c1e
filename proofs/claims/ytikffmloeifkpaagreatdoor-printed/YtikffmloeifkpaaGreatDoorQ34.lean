/- Contracts. -/
import Derived.Test.YtikffmloeifkpaaGreatDoorQ33
import Derived.Deep.CutRange
set_option maxHeartbeats 4000000
set_option maxRecDepth 100000
namespace Go.Proofs.YtikffmloeifkpaaGreatDoor
open Go.RowKit Go.Lib Go.Deep
def aF9(K:Nat)(f:Int->Int->Int × Bool)(P:Int->Int->Prop):Prop:=
 (∀ args wx,(callFunc K args).run Tryz.prog wx= .ok (.enter K args) wx)/\∀ (x y:Int) (w:World),P x y->Calls Tryz.prog K #[.int .i64 x,.int .i64 y] w fun e w'=>e= .returned (aD5 (f x y))/\∃ n,w'=w.drewN n
theorem aFE:aF9 356 aAV fun _ _=>True:=⟨fun _ _=>by go_simp,fun x y w _=>(aSH x y w).mono (by rintro e w' ⟨rfl,rfl⟩;exact⟨rfl,0,rfl⟩)⟩
theorem aCV:aF9 357 wE fun _ _=>True:=⟨fun _ _=>by go_simp,fun x y w _=>(aQJ x y w).mono (by rintro e w' ⟨rfl,rfl⟩;exact⟨rfl,0,rfl⟩)⟩
theorem aCU:aF9 358 mW fun _ _=>True:=⟨fun _ _=>by go_simp,fun x y w _=>aPK x y w⟩
theorem aFF:aF9 359 wX fun _ y=>y≠0:=⟨fun _ _=>by go_simp,fun x y w h=>(aSK x y w h).mono (by rintro e w' ⟨rfl,rfl⟩;exact⟨rfl,0,rfl⟩)⟩
def mJ(f:Int->Int->Int × Bool)(acc:Rg):List (Int × Int)->Rg
 |[]=>acc
 |p::l=>if(f p.1 p.2).2 then mJ f (bQ acc (cQ (f p.1 p.2).1)) l else bEE
def zO(a b:Rg):List (Int × Int):=[(a.1,b.1),(a.1,b.2),(a.2,b.1),(a.2,b.2)]
def nU(f:Int->Int->Int × Bool)(a b:Rg):Rg:=mJ f fF (zO a b)
def oP(r:Rg)(i:Nat):Int:=if i=0 then r.1 else r.2
theorem aO9(f:Int->Int->Int × Bool)(a b acc:Rg)(i j:Nat)(hi:i < 2)(hj:j < 2):
 mJ f acc ((zO a b).drop (2*i+j))=if(f (oP a i) (oP b j)).2 then mJ f (bQ acc (cQ (f (oP a i) (oP b j)).1)) ((zO a b).drop (2*i+j+1))else bEE:=by
 have h1:i=0\/i=1:=Oa
 have h2:j=0\/j=1:=Oa
 rcases h1 with rfl|rfl<;>rcases h2 with rfl|rfl<;>rfl
structure EnW(p q:Nat)(r s acc:Rg)(w w':World):Prop where
 b0:w'.heap[p]?=some (.cells #[.int .i64 r.1,.int .i64 r.2] 259 (0,0))
 b1:w'.heap[p+1]?=some (.cells #[.int .i64 s.1,.int .i64 s.2] 259 (0,0))
 b2:w'.heap[p+1+1]?=some (.cells #[.int .i64 0,.int .i64 0] 259 (0,0))
 b3:w'.heap[q]?=some (.cells #[.int .i64 acc.1,.int .i64 acc.2] 259 (0,0))
 lt:p+1+1 < q/\p=w.heap.size
 low:Below w.heap.size w w'
theorem qB{w:World}{k:Nat}{o:Obj}(h:w.heap[k]?=some o):k < w.heap.size:=(Oo h)
theorem EnW.next{p q:Nat}{r s acc:Rg}{w u v:World}(h:EnW p q r s acc w u)(k:Below u.heap.size u v):EnW p q r s acc w v:=
 ⟨(k.block _ (qB h.b0)).trans h.b0,(k.block _ (qB h.b1)).trans h.b1,(k.block _ (qB h.b2)).trans h.b2,(k.block _ (qB h.b3)).trans h.b3,h.lt,h.low.trans (k.mono (Qa (qB h.b0) h.lt))⟩
theorem EnW.drewN{p q:Nat}{r s acc:Rg}{w u:World}(h:EnW p q r s acc w u)(n:Nat):EnW p q r s acc w (u.drewN n):=⟨h.b0,h.b1,h.b2,h.b3,h.lt,h.low.os,h.low.tape,h.low.output,h.low.size,h.low.block⟩
theorem EnW.drew{p q:Nat}{r s acc:Rg}{w u:World}(h:EnW p q r s acc w u):EnW p q r s acc w u.drew:=⟨h.b0,h.b1,h.b2,h.b3,h.lt,h.low.os,h.low.tape,h.low.output,h.low.size,h.low.block⟩
theorem aK7{w:World}{q:Nat}{a b c d:Value}{t:TypeId}(h:w.heap[q]?=some (.cells #[a,b] t (0,0))):
 ((w.setCell ⟨q,0,none⟩ c).setCell ⟨q,1,none⟩ d).heap[q]?=some (.cells #[c,d] t (0,0)):=by
 have h1:=aM (o:=0) c h;have h2:=aM (o:=1) d h1;simpa using h2
theorem EnW.put{p q:Nat}{r s acc acc':Rg}{w u:World}(h:EnW p q r s acc w u):EnW p q r s acc' w ((u.setCell ⟨q,0,none⟩ (.int .i64 acc'.1)).setCell ⟨q,1,none⟩ (.int .i64 acc'.2)):=by
 obtain⟨l1,l2⟩:=h.lt;have e:∀ k,k≠q->((u.setCell ⟨q,0,none⟩ (.int .i64 acc'.1)).setCell ⟨q,1,none⟩ (.int .i64 acc'.2)).heap[k]?=u.heap[k]?:=fun k hk=>(Om hk).trans (Om hk);exact⟨(e _ Oa).trans h.b0,(e _ Oa).trans h.b1,(e _ Oa).trans h.b2,aK7 h.b3,h.lt,(h.low.setCell (by show _<=q;omega) _).setCell (by show _<=q;omega) _⟩
theorem aEU(a b:Int)(w:World):(Instr.index 486 (.agg #[.int .i64 a,.int .i64 b]) (.int .i64 0)).run Tryz.prog w= .ok (.int .i64 a) w:=by kernel_rfl
theorem aET(a b:Int)(w:World):(Instr.index 486 (.agg #[.int .i64 a,.int .i64 b]) (.int .i64 1)).run Tryz.prog w= .ok (.int .i64 b) w:=by kernel_rfl
theorem zV(r:Rg)(i:Nat)(w:World)(hi:i < 2):(Instr.index 486 (.agg #[.int .i64 r.1,.int .i64 r.2]) (.int .i64 i)).run Tryz.prog w= .ok (.int .i64 (oP r i)) w:=by
 have h:i=0\/i=1:=Oa
 rcases h with rfl|rfl
 ·exact aEU _ _ w
 ·exact aET _ _ w
theorem aCG(K:Nat)(f:Int->Int->Int × Bool)(P:Int->Int->Prop)(hK:aF9 K f P)(r s:Rg)(w:World)(hP:∀ i j,P (oP r i) (oP s j)):
 Calls Tryz.prog 355 #[rgV r,rgV s,.func (Fn.func K) #[] #[]] w fun e w'=>e= .returned (rgV (nU f r s))/\Below w.heap.size w w':=by
 obtain⟨R,hR⟩:∃ R,R=nU f r s:=⟨_,rfl⟩;rw[<-hR];obtain⟨he,hw⟩:=hK;have HW:Hid (∀ (x y:Int) (w:World),P x y->Calls Tryz.prog K #[.int .i64 x,.int .i64 y] w fun e w'=>e= .returned (aD5 (f x y))/\∃ n,w'=w.drewN n):=hw;have HP:Hid (∀ i j,P (oP r i) (oP s j)):=hP;have HR:Hid (R=nU f r s):=hR;clear hw hP hR;rw[aS r,aS s];go_enter Tryz.func355,Tryz.ntmps355
 go_wp2_with fail
 obtain⟨b1,b2,b3,HB,hz⟩:=aKT w (.cells #[.int .i64 r.1,.int .i64 r.2] 259) (.cells #[.int .i64 s.1,.int .i64 s.2] 259) (.cells #[.int .i64 0,.int .i64 0] 259);generalize k7:((w.alloc (.cells #[.int .i64 r.1,.int .i64 r.2] 259)).alloc (.cells #[.int .i64 s.1,.int .i64 s.2] 259)).alloc (.cells #[.int .i64 0,.int .i64 0] 259)=W0 at*;refine(aNB W0).mono ?_;rintro e W1 ⟨rfl,h1⟩
 have EW:EnW w.heap.size W1.heap.size r s fF w (W1.alloc (.cells #[.int .i64 fF.1,.int .i64 fF.2] 259)):=by
  have hz1:=h1.size;have a1:=(h1.block _ Oa).trans b1;have a2:=(h1.block _ Oa).trans b2;have a3:=(h1.block _ Oa).trans b3;exact⟨(On Oa).trans a1,(On Oa).trans a2,(On Oa).trans a3,Qb W1 _,⟨Oa,rfl⟩,(HB.trans (h1.mono Oa)).alloc Oa _⟩
 have HE:Hid (EnW w.heap.size W1.heap.size r s fF w (W1.alloc (.cells #[.int .i64 fF.1,.int .i64 fF.2] 259))):=EW;obtain⟨p0,p1,p2⟩:=aH EW.b0;clear b1 b2 b3 HB hz k7 h1;rw[aS];go_wp2_with fail
 have L0:∃ i:Nat,(Value.int .i64 0)= .int .i64 i/\i<=2/\2<=i+2/\∃ acc,R=mJ f acc ((zO r s).drop (2*i))/\EnW w.heap.size W1.heap.size r s acc w (W1.alloc (.cells #[.int .i64 fF.1,.int .i64 fF.2] 259)):=⟨0,rfl,Oa,Oa,fF,HR.out,EW⟩;clear EW p0 p1 p2 HE HR;generalize W1.heap.size=q at*;generalize w.heap.size=p at*;go_loopg [20] 2 (fun m v wr=>∃ i:Nat,v= .int .i64 i/\i<=2/\2<=i+m/\∃ acc,R=mJ f acc ((zO r s).drop (2*i))/\EnW p q r s acc w wr)
 case atStart=>exact L0
 case round=>
  clear L0;obtain⟨i,rfl,hi,hm,acc,hR,hE⟩:=hrel
  rename World=>WP
  have HM:Hid (2<=i+gk):=hm;have HR:Hid (R=mJ f acc ((zO r s).drop (2*i))):=hR;clear hm hR;obtain⟨p0,p1,p2⟩:=aH hE.b0;obtain⟨r0,r1,r2⟩:=aH hE.b1;obtain⟨q0,q1,q2⟩:=aH hE.b3;have HE:Hid _:=hE
  by_cases k2:i=2
  ·subst k2;have k8:Hid (R=acc):=HR.out;clear HR HM;obtain⟨s0,s1,s2⟩:=aH hE.b2;clear hE p0 p1 p2 r0 r1 r2;go_wp2_with fail
   obtain⟨x0,x1⟩:=dQ (w:=WP) (u0:= .int .i64 acc.1) (u1:= .int .i64 acc.2) s0 s1;rw[k8.out];have h9:=HE.out.lt;refine bodyPost_ret (v:=rgV acc) (by simp[results,Tryz.results355,go_sem,aS,x0,x1]) rfl ⟨rfl,?_⟩;exact(HE.out.low.setCell (by show _<=p+1+1;omega) _).setCell (by show _<=p+1+1;omega) _
  ·have h9:(i:Int) < 2:=Oa
   have hi0:(0:Int)<=(i:Int):=Oa
   clear hE p0 p1 p2;obtain⟨m,rfl⟩:∃ m,gk=m+1:=⟨gk - 1,Oi HM.out⟩;have L0:∃ j:Nat,(Value.int .i64 0)= .int .i64 j/\j<=2/\2<=j+2/\∃ acc,R=mJ f acc ((zO r s).drop (2*i+j))/\EnW p q r s acc w WP:=⟨0,rfl,Oa,Oa,acc,HR.out,HE.out⟩;obtain⟨c,hc⟩:∃ c,c=oP r i:=⟨_,rfl⟩;have HI:Hid (c=oP r i/\i < 2):=⟨hc,Oa⟩;have k3:Hid _:=L0;clear L0 HR HE;have k5:=zV r i WP HI.out.2;rw[<-hc]at k5;clear hc k2 hi;go_wp2_with fail
   go_loopg [28] 2 (fun m v wr=>∃ j:Nat,v= .int .i64 j/\j<=2/\2<=j+m/\∃ acc,R=mJ f acc ((zO r s).drop (2*i+j))/\EnW p q r s acc w wr)
   case atStart=>exact k3.out
   case round=>
    clear k3;obtain⟨j,rfl,hj,hm,acc,hR,hE⟩:=hrel
    rename World=>WJ
    have h6:Hid (2<=j+gk):=hm;have HR:Hid (R=mJ f acc ((zO r s).drop (2*i+j))):=hR;clear hm hR r0 r1 r2 q0 q1 q2;obtain⟨q0,q1,q2⟩:=aH hE.b3;have HE:Hid _:=hE
    by_cases k1:j=2
    ·subst k1;clear hE h6;have hi3:(i:Int) < 2:=by have:=HI.out;omega
     have hi4:(0:Int)<=(i:Int):=Oa
     go_wp2_with fail
     go_roundg m
     case rel=>exact⟨i+1,Od,Oi HI.out,Oi HM.out,acc,HR.out,HE.out⟩
     case measure=>omega
    ·have hltj:(j:Int) < 2:=Oa
     have hj0:(0:Int)<=(j:Int):=Oa
     obtain⟨s0,s1,s2⟩:=aH hE.b2;clear hE;obtain⟨mj,rfl⟩:∃ mj,gk=mj+1:=⟨gk - 1,Oi h6.out⟩;obtain⟨d,hd⟩:∃ d,d=oP s j:=⟨_,rfl⟩;have HJ:Hid (d=oP s j/\j < 2):=⟨hd,Oa⟩;have k0:=zV s j WJ HJ.out.2;rw[<-hd]at k0;clear hd k1 hj;have h4:=aO9 f r s acc i j HI.out.2 HJ.out.2;rw[<-HI.out.1,<-HJ.out.1]at h4;have h0:=HW.out c d WJ (by rw[HI.out.1,HJ.out.1];exact HP.out i j);generalize k6:f c d=fcd at*;obtain⟨z,ok⟩:=fcd;have h3:Hid _:=h4;clear h4 k6;go_wp2_with fail
     clear k0;refine h0.mono ?_;rintro e W ⟨rfl,n,rfl⟩;rw[show aD5 (z,ok)= .tuple #[.int .i64 z,.bool ok]from rfl];have h2:=HE.out.drewN n;obtain⟨s0,s1,s2⟩:=aH h2.b2;obtain⟨q0,q1,q2⟩:=aH h2.b3;have h7:Hid _:=h2;generalize WJ.drewN n=W at*;clear h2 HE h0;cases ok
     ·have h5:Hid (R=bEE):=HR.out.trans (h3.out.trans (if_neg Od));clear h3 HR q0 q1 q2;go_wp2_with fail
      refine(rK W).mono ?_;rintro e V ⟨rfl,hv⟩;have h8:=h7.out.next hv;obtain⟨t0,t1,t2⟩:=aH h8.b2;have k4:Hid _:=h8;rw[aS];clear h8 h7 s0 s1 s2;go_wp2_with fail
      obtain⟨x0,x1⟩:=dQ (w:=V) (u0:= .int .i64 bEE.1) (u1:= .int .i64 bEE.2) t0 t1;rw[h5.out];have h9:=k4.out.lt;refine bodyPost_ret (v:=rgV bEE) (by simp[results,Tryz.results355,go_sem,aS,x0,x1]) rfl ⟨rfl,?_⟩;exact(k4.out.low.setCell (by show _<=p+1+1;omega) _).setCell (by show _<=p+1+1;omega) _
     ·have h5:Hid (R=mJ f (bQ acc (cQ z)) ((zO r s).drop (2*i+j+1))):=HR.out.trans (h3.out.trans (if_pos rfl));clear h3 HR s0 s1 s2;go_upto_region 11 with fail
      go_region_with (first
       |(go_at_call 306;refine(aHR z _).mono ?_;rintro e Wa ⟨rfl,ha⟩;have ea:=h7.out.drew.next ha;obtain⟨q0,q1,q2⟩:=aH ea.b3)
       |(go_at_call 315;refine(aNH acc (cQ z) _).mono ?_;rintro e Wb ⟨rfl,hb⟩;have eb:=ea.next hb;obtain⟨q0,q1,q2⟩:=aH eb.b3;rw[aS]))
      all_goals
       have EF:Hid (EnW p q r s (bQ acc (cQ z)) w ((Wb.setCell ⟨q,0,none⟩ (.int .i64 (bQ acc (cQ z)).1)).setCell ⟨q,1,none⟩ (.int .i64 (bQ acc (cQ z)).2))):=eb.put;generalize ((Wb.setCell ⟨q,0,none⟩ (.int .i64 (bQ acc (cQ z)).1)).setCell ⟨q,1,none⟩ (.int .i64 (bQ acc (cQ z)).2))=WF at*;clear ea eb ha hb q0 q1 q2;go_wp2_with fail
       go_roundg mj
       case rel=>exact⟨j+1,Od,Oi HJ.out,Oi h6.out,_,h5.out,EF.out⟩
       case measure=>omega
def kH(a b:Rg):Rg:=nU aAV a b
def gX(a b:Rg):Rg:=nU wE a b
def gW(a b:Rg):Rg:=nU mW a b
def iQ(a b:Rg):Rg:=if jD b 0||jD a (-9223372036854775808)then bEE else nU wX a b
def wW(b:Rg):Int:=w64 (max b.1 (w64 (-b.1)) - 1)
def iO(a b:Rg):Rg:=if !eH b||decide (b.1=0)||decide (b.1= -9223372036854775808)then bEE else(if a.1 < 0 then w64 (-wW b)else 0,if 0 < a.2 then wW b else 0)
theorem aSG(r s:Rg)(w:World):Calls Tryz.prog 339 #[rgV r,rgV s] w fun e w'=>e= .returned (rgV (kH r s))/\Below w.heap.size w w':=by
 have hc:∀ W,Calls Tryz.prog 355 #[rgV r,rgV s,.func (Fn.func 356) #[] #[]] W fun e w'=>e= .returned (rgV (kH r s))/\Below W.heap.size W w':=fun W=>aCG _ _ _ aFE r s W fun _ _=>trivial;generalize kH r s=R at*;rw[aS r,aS s];obtain⟨b0,b1,b2,HB,hz⟩:=aKT w (.cells #[.int .i64 r.1,.int .i64 r.2] 259) (.cells #[.int .i64 s.1,.int .i64 s.2] 259) (.cells #[.int .i64 0,.int .i64 0] 259);generalize hW0:((w.alloc (.cells #[.int .i64 r.1,.int .i64 r.2] 259)).alloc (.cells #[.int .i64 s.1,.int .i64 s.2] 259)).alloc (.cells #[.int .i64 0,.int .i64 0] 259)=W0 at*;obtain⟨p0,p1,p2⟩:=aH b0;obtain⟨q0,q1,q2⟩:=aH b1;go_enter Tryz.func339,Tryz.ntmps339
 go_wp2_with fail
 refine(hc W0).mono ?_;rintro e W ⟨rfl,h2⟩;clear p0 p1 p2 q0 q1 q2;obtain⟨x0,x1,x2⟩:=aH ((h2.block _ Oa).trans b2);rw[aS];go_wp2_with fail
 obtain⟨y0,y1⟩:=dQ (w:=W) (u0:= .int .i64 R.1) (u1:= .int .i64 R.2) x0 x1;refine bodyPost_ret (v:=rgV R) (by simp[results,Tryz.results339,go_sem,aS,y0,y1]) rfl ⟨rfl,?_⟩;exact((HB.trans (h2.mono Oa)).setCell (by show _<=w.heap.size+1+1;omega) _).setCell (by show _<=w.heap.size+1+1;omega) _
theorem aQI(r s:Rg)(w:World):Calls Tryz.prog 340 #[rgV r,rgV s] w fun e w'=>e= .returned (rgV (gX r s))/\Below w.heap.size w w':=by
 have hc:∀ W,Calls Tryz.prog 355 #[rgV r,rgV s,.func (Fn.func 357) #[] #[]] W fun e w'=>e= .returned (rgV (gX r s))/\Below W.heap.size W w':=fun W=>aCG _ _ _ aCV r s W fun _ _=>trivial;generalize gX r s=R at*;rw[aS r,aS s];obtain⟨b0,b1,b2,HB,hz⟩:=aKT w (.cells #[.int .i64 r.1,.int .i64 r.2] 259) (.cells #[.int .i64 s.1,.int .i64 s.2] 259) (.cells #[.int .i64 0,.int .i64 0] 259);generalize hW0:((w.alloc (.cells #[.int .i64 r.1,.int .i64 r.2] 259)).alloc (.cells #[.int .i64 s.1,.int .i64 s.2] 259)).alloc (.cells #[.int .i64 0,.int .i64 0] 259)=W0 at*;obtain⟨p0,p1,p2⟩:=aH b0;obtain⟨q0,q1,q2⟩:=aH b1;go_enter Tryz.func340,Tryz.ntmps340
 go_wp2_with fail
 refine(hc W0).mono ?_;rintro e W ⟨rfl,h2⟩;clear p0 p1 p2 q0 q1 q2;obtain⟨x0,x1,x2⟩:=aH ((h2.block _ Oa).trans b2);rw[aS];go_wp2_with fail
 obtain⟨y0,y1⟩:=dQ (w:=W) (u0:= .int .i64 R.1) (u1:= .int .i64 R.2) x0 x1;refine bodyPost_ret (v:=rgV R) (by simp[results,Tryz.results340,go_sem,aS,y0,y1]) rfl ⟨rfl,?_⟩;exact((HB.trans (h2.mono Oa)).setCell (by show _<=w.heap.size+1+1;omega) _).setCell (by show _<=w.heap.size+1+1;omega) _
theorem aPJ(r s:Rg)(w:World):Calls Tryz.prog 341 #[rgV r,rgV s] w fun e w'=>e= .returned (rgV (gW r s))/\Below w.heap.size w w':=by
 have hc:∀ W,Calls Tryz.prog 355 #[rgV r,rgV s,.func (Fn.func 358) #[] #[]] W fun e w'=>e= .returned (rgV (gW r s))/\Below W.heap.size W w':=fun W=>aCG _ _ _ aCU r s W fun _ _=>trivial;generalize gW r s=R at*;rw[aS r,aS s];obtain⟨b0,b1,b2,HB,hz⟩:=aKT w (.cells #[.int .i64 r.1,.int .i64 r.2] 259) (.cells #[.int .i64 s.1,.int .i64 s.2] 259) (.cells #[.int .i64 0,.int .i64 0] 259);generalize hW0:((w.alloc (.cells #[.int .i64 r.1,.int .i64 r.2] 259)).alloc (.cells #[.int .i64 s.1,.int .i64 s.2] 259)).alloc (.cells #[.int .i64 0,.int .i64 0] 259)=W0 at*;obtain⟨p0,p1,p2⟩:=aH b0;obtain⟨q0,q1,q2⟩:=aH b1;go_enter Tryz.func341,Tryz.ntmps341
 go_wp2_with fail
 refine(hc W0).mono ?_;rintro e W ⟨rfl,h2⟩;clear p0 p1 p2 q0 q1 q2;obtain⟨x0,x1,x2⟩:=aH ((h2.block _ Oa).trans b2);rw[aS];go_wp2_with fail
 obtain⟨y0,y1⟩:=dQ (w:=W) (u0:= .int .i64 R.1) (u1:= .int .i64 R.2) x0 x1;refine bodyPost_ret (v:=rgV R) (by simp[results,Tryz.results341,go_sem,aS,y0,y1]) rfl ⟨rfl,?_⟩;exact((HB.trans (h2.mono Oa)).setCell (by show _<=w.heap.size+1+1;omega) _).setCell (by show _<=w.heap.size+1+1;omega) _
theorem fZ(W:World)(k:Nat)(t:TypeId)(hk:W.heap[k]?=some (.cells #[.int .i64 0,.int .i64 0] t (0,0)))(R:Rg):
 ((W.setCell ⟨k,0,none⟩ (.int .i64 R.1)).setCell ⟨k,1,none⟩ (.int .i64 R.2)).cell? ⟨k,0,none⟩=some (.int .i64 R.1)/\((W.setCell ⟨k,0,none⟩ (.int .i64 R.1)).setCell ⟨k,1,none⟩ (.int .i64 R.2)).cell? ⟨k,1,none⟩=some (.int .i64 R.2):=
 dQ (aH hk).1 (aH hk).2.1
theorem aSJ(r s:Rg)(w:World)(k0:s.1<=s.2):Calls Tryz.prog 342 #[rgV r,rgV s] w fun e w'=>e= .returned (rgV (iQ r s))/\Below w.heap.size w w':=by
 have h5:jD s 0=false->s.1≠0/\s.2≠0:=fun h=>by
  unfold jD at h;rw[decide_eq_false_iff_not]at h;omega
 have ha:=aEE s 0;have hb:=aEE r (-9223372036854775808);have h7:iQ r s=if jD s 0||jD r (-9223372036854775808)then bEE else nU wX r s:=rfl
 have hc:jD s 0=false->∀ W,Calls Tryz.prog 355 #[rgV r,rgV s,.func (Fn.func 359) #[] #[]] W fun e w'=>e= .returned (rgV (nU wX r s))/\Below W.heap.size W w':=fun h W=>aCG _ _ _ aFF r s W fun i j=>by
  unfold oP
  split
  ·exact(h5 h).1
  ·exact(h5 h).2
 clear k0 h5;generalize iQ r s=R at*;generalize nU wX r s=E at*;rw[aS r]at hb hc;rw[aS s]at ha hc;rw[aS r,aS s];obtain⟨b0,b1,b2,HB,hz⟩:=aKT w (.cells #[.int .i64 r.1,.int .i64 r.2] 259) (.cells #[.int .i64 s.1,.int .i64 s.2] 259) (.cells #[.int .i64 0,.int .i64 0] 259);generalize k1:((w.alloc (.cells #[.int .i64 r.1,.int .i64 r.2] 259)).alloc (.cells #[.int .i64 s.1,.int .i64 s.2] 259)).alloc (.cells #[.int .i64 0,.int .i64 0] 259)=W0 at*;obtain⟨p0,p1,p2⟩:=aH b0;obtain⟨q0,q1,q2⟩:=aH b1;have HC:Hid _:=hc;have h0:Hid _:=h7;clear hc h7;generalize hsb:jD s 0=sb at*;generalize hrb:jD r (-9223372036854775808)=rb at*;have HB:Hid (Below w.heap.size w W0):=HB;go_enter Tryz.func342,Tryz.ntmps342
 go_wp2_with fail
 refine(ha W0).mono ?_;rintro e W ⟨rfl,h2⟩;have c0:=(h2.block _ Oa).trans b0;have c1:=(h2.block _ Oa).trans b1;have c2:=(h2.block _ Oa).trans b2;have h6:Hid (Below w.heap.size w W):=HB.out.trans (h2.mono Oa);have h9:w.heap.size+3<=W.heap.size:=by have:=h2.size;omega
 clear p0 p1 p2 q0 q1 q2 b0 b1 b2 HB hz h2 ha k1;cases sb
 ·obtain⟨p0,p1,p2⟩:=aH c0;go_wp2_with fail
  refine(hb W).mono ?_;rintro e V ⟨rfl,h3⟩;have d0:=(h3.block _ Oa).trans c0;have d1:=(h3.block _ Oa).trans c1;have d2:=(h3.block _ Oa).trans c2;have h8:Hid (Below w.heap.size w V):=h6.out.trans (h3.mono Oa);have hz3:w.heap.size+3<=V.heap.size:=by have:=h3.size;omega
  clear p0 p1 p2 c0 c1 c2 h6 h9 h3 hb;cases rb
  ·have HE:Hid (R=E):=h0.out;clear h0;obtain⟨p0,p1,p2⟩:=aH d0;obtain⟨q0,q1,q2⟩:=aH d1;go_wp2_with fail
   refine(HC.out trivial V).mono ?_;rintro e U ⟨rfl,h4⟩;have e2:=(h4.block _ Oa).trans d2;have h1:Hid (Below w.heap.size w U):=h8.out.trans (h4.mono Oa);clear p0 p1 p2 q0 q1 q2 d0 d1 d2 h4;obtain⟨x0,x1,x2⟩:=aH e2;rw[aS E];go_wp2_with fail
   obtain⟨y0,y1⟩:=fZ U _ _ e2 E;rw[HE.out];refine bodyPost_ret (v:=rgV E) (by simp[results,Tryz.results342,go_sem,aS,y0,y1]) rfl ⟨rfl,?_⟩;exact(h1.out.setCell (by show _<=w.heap.size+1+1;omega) _).setCell (by show _<=w.heap.size+1+1;omega) _
  ·have HE:Hid (R=bEE):=h0.out;clear h0;go_wp2_with fail
   refine(rK V).mono ?_;rintro e U ⟨rfl,h4⟩;have e2:=(h4.block _ Oa).trans d2;have h1:Hid (Below w.heap.size w U):=h8.out.trans (h4.mono Oa);clear d0 d1 d2 h4;obtain⟨x0,x1,x2⟩:=aH e2;rw[aS bEE];go_wp2_with fail
   obtain⟨y0,y1⟩:=fZ U _ _ e2 bEE;rw[HE.out];refine bodyPost_ret (v:=rgV bEE) (by simp[results,Tryz.results342,go_sem,aS,y0,y1]) rfl ⟨rfl,?_⟩;exact(h1.out.setCell (by show _<=w.heap.size+1+1;omega) _).setCell (by show _<=w.heap.size+1+1;omega) _
 ·have HE:Hid (R=bEE):=h0.out;clear h0;go_wp2_with fail
  refine(rK W).mono ?_;rintro e U ⟨rfl,h4⟩;have e2:=(h4.block _ Oa).trans c2;have h1:Hid (Below w.heap.size w U):=h6.out.trans (h4.mono Oa);clear c0 c1 c2 h4;obtain⟨x0,x1,x2⟩:=aH e2;rw[aS bEE];go_wp2_with fail
  obtain⟨y0,y1⟩:=fZ U _ _ e2 bEE;rw[HE.out];refine bodyPost_ret (v:=rgV bEE) (by simp[results,Tryz.results342,go_sem,aS,y0,y1]) rfl ⟨rfl,?_⟩;exact(h1.out.setCell (by show _<=w.heap.size+1+1;omega) _).setCell (by show _<=w.heap.size+1+1;omega) _
theorem aSF(r s:Rg)(w:World):Calls Tryz.prog 343 #[rgV r,rgV s] w fun e w'=>e= .returned (rgV (iO r s))/\Below w.heap.size w w':=by
 have ha:=uT s;have h6:iO r s=if !eH s||decide (s.1=0)||decide (s.1= -9223372036854775808)then bEE else(if r.1 < 0 then w64 (-wW s)else 0,if 0 < r.2 then wW s else 0):=rfl
 have hm:wW s=wrap64 (max s.1 (wrap64 (-s.1)) - 1):=rfl;generalize iO r s=R at*;rw[aS s]at ha;rw[aS r,aS s];obtain⟨b0,b1,b2,HB,hz⟩:=aKT w (.cells #[.int .i64 r.1,.int .i64 r.2] 259) (.cells #[.int .i64 s.1,.int .i64 s.2] 259) (.cells #[.int .i64 0,.int .i64 0] 259);generalize h7:((w.alloc (.cells #[.int .i64 r.1,.int .i64 r.2] 259)).alloc (.cells #[.int .i64 s.1,.int .i64 s.2] 259)).alloc (.cells #[.int .i64 0,.int .i64 0] 259)=W0 at*;obtain⟨q0,q1,q2⟩:=aH b1;have h3:Hid _:=h6;have HM:Hid _:=hm;clear h6 hm;generalize hsb:eH s=sb at*;generalize wW s=M at*;have HB:Hid (Below w.heap.size w W0):=HB;go_enter Tryz.func343,Tryz.ntmps343
 go_wp2_with fail
 refine(ha W0).mono ?_;rintro e W ⟨rfl,h2⟩;have c0:=(h2.block _ Oa).trans b0;have c1:=(h2.block _ Oa).trans b1;have c2:=(h2.block _ Oa).trans b2;have h5:Hid (Below w.heap.size w W):=HB.out.trans (h2.mono Oa);have hz2:w.heap.size+3<=W.heap.size:=by have:=h2.size;omega
 clear q0 q1 q2 b0 b1 b2 HB hz h2 ha h7;cases sb
 ·have HE:Hid (R=bEE):=h3.out.trans (if_pos (by simp[]));clear h3 HM;go_wp2_with fail
  refine(rK W).mono ?_;rintro e U ⟨rfl,h4⟩;have e2:=(h4.block _ Oa).trans c2;have h0:Hid (Below w.heap.size w U):=h5.out.trans (h4.mono Oa);clear c0 c1 c2 h4;obtain⟨x0,x1,x2⟩:=aH e2;rw[aS bEE];go_wp2_with fail
  obtain⟨y0,y1⟩:=fZ U _ _ e2 bEE;rw[HE.out];refine bodyPost_ret (v:=rgV bEE) (by simp[results,Tryz.results343,go_sem,aS,y0,y1]) rfl ⟨rfl,?_⟩;exact(h0.out.setCell (by show _<=w.heap.size+1+1;omega) _).setCell (by show _<=w.heap.size+1+1;omega) _
 ·by_cases h1:s.1=0
  ·have t0:(s.1==0)=true:=by simp[h1]
   have HE:Hid (R=bEE):=h3.out.trans (if_pos (by simp[h1]));clear h3 HM;go_wp2_with fail
   refine(rK W).mono ?_;rintro e U ⟨rfl,h4⟩;have e2:=(h4.block _ Oa).trans c2;have h0:Hid (Below w.heap.size w U):=h5.out.trans (h4.mono Oa);clear c0 c1 c2 h4;obtain⟨x0,x1,x2⟩:=aH e2;rw[aS bEE];go_wp2_with fail
   obtain⟨y0,y1⟩:=fZ U _ _ e2 bEE;rw[HE.out];refine bodyPost_ret (v:=rgV bEE) (by simp[results,Tryz.results343,go_sem,aS,y0,y1]) rfl ⟨rfl,?_⟩;exact(h0.out.setCell (by show _<=w.heap.size+1+1;omega) _).setCell (by show _<=w.heap.size+1+1;omega) _
  by_cases h2:s.1= -9223372036854775808
  ·have t0:(s.1==0)=false:=by simp[h1]
   have t1:(s.1==-9223372036854775808)=true:=by simp[h2]
   have HE:Hid (R=bEE):=h3.out.trans (if_pos (by simp[h2]));clear h3 HM;go_wp2_with fail
   refine(rK W).mono ?_;rintro e U ⟨rfl,h4⟩;have e2:=(h4.block _ Oa).trans c2;have h0:Hid (Below w.heap.size w U):=h5.out.trans (h4.mono Oa);clear c0 c1 c2 h4;obtain⟨x0,x1,x2⟩:=aH e2;rw[aS bEE];go_wp2_with fail
   obtain⟨y0,y1⟩:=fZ U _ _ e2 bEE;rw[HE.out];refine bodyPost_ret (v:=rgV bEE) (by simp[results,Tryz.results343,go_sem,aS,y0,y1]) rfl ⟨rfl,?_⟩;exact(h0.out.setCell (by show _<=w.heap.size+1+1;omega) _).setCell (by show _<=w.heap.size+1+1;omega) _
  ·have t0:(s.1==0)=false:=by simp[h1]
   have t1:(s.1==-9223372036854775808)=false:=by simp[h2]
   have HE:Hid (R=(if r.1 < 0 then w64 (-M)else 0,if 0 < r.2 then M else 0)):=h3.out.trans (if_neg (by simp[h1,h2]));clear h3 h1 h2;go_wp2_with fail
   rw[<-HM.out];refine(aHR 0 W).mono ?_;rintro e V ⟨rfl,h4⟩;have d0:=(h4.block _ Oa).trans c0;have d2:=(h4.block _ Oa).trans c2;have h0:Hid (Below w.heap.size w V):=h5.out.trans (h4.mono Oa);have hz4:w.heap.size+3<=V.heap.size:=by have:=h4.size;omega
   clear c0 c1 c2 h4 HM
   have g0:∀ o:Obj,(V.alloc o).cell? ⟨w.heap.size,0,none⟩=some (.int .i64 r.1)/\(V.alloc o).cell? ⟨w.heap.size,1,none⟩=some (.int .i64 r.2):=fun o=>by
    obtain⟨h1,h2,_⟩:=aH ((Below.heap_alloc V o _ Oa).trans d0);exact⟨h1,h2⟩
   have g2:∀ o:Obj,(V.alloc o).heap[w.heap.size+1+1]?=some (.cells #[.int .i64 0,.int .i64 0] 259 (0,0)):=fun o=>(On Oa).trans d2;have ga:∀ o:Obj,(V.alloc o).cell? ⟨w.heap.size,0,none⟩=some (.int .i64 r.1):=fun o=>(g0 o).1;have gb:∀ o:Obj,(V.alloc o).cell? ⟨w.heap.size,1,none⟩=some (.int .i64 r.2):=fun o=>(g0 o).2;have gc:∀ o:Obj,(V.alloc o).cell? ⟨w.heap.size+1+1,0,none⟩=some (.int .i64 0):=fun o=>(aH (g2 o)).1;have gd:∀ o:Obj,(V.alloc o).cell? ⟨w.heap.size+1+1,1,none⟩=some (.int .i64 0):=fun o=>(aH (g2 o)).2.1;have ge:∀ (o:Obj) (k:Nat),(V.alloc o).frozen? ⟨w.heap.size+1+1,k,none⟩=false:=fun o=>(aH (g2 o)).2.2;clear g0 d0 d2;rw[aS]
   by_cases ha:r.1 < 0<;>by_cases hb:0 < r.2
   ·go_wp2_with fail
    obtain⟨y0,y1⟩:=fZ (V.alloc (.cells #[.int .i64 (wrap64 (-M)),.int .i64 M] 259)) _ _ (g2 _) (wrap64 (-M),M);rw[HE.out,if_pos ha,if_pos hb];refine bodyPost_ret (v:=rgV (wrap64 (-M),M)) (by simp[results,Tryz.results343,go_sem,aS,y0,y1]) rfl ⟨rfl,?_⟩;exact((h0.out.alloc Oa _).setCell (by show _<=w.heap.size+1+1;omega) _).setCell (by show _<=w.heap.size+1+1;omega) _
   ·go_wp2_with fail
    obtain⟨y0,y1⟩:=fZ (V.alloc (.cells #[.int .i64 (wrap64 (-M)),.int .i64 (cQ 0).2] 259)) _ _ (g2 _) (wrap64 (-M),(cQ 0).2);rw[HE.out,if_pos ha,if_neg (show ¬0 < r.2 by omega)];refine bodyPost_ret (v:=rgV (wrap64 (-M),(cQ 0).2)) (by simp[results,Tryz.results343,go_sem,aS,y0,y1]) rfl ⟨rfl,?_⟩;exact((h0.out.alloc Oa _).setCell (by show _<=w.heap.size+1+1;omega) _).setCell (by show _<=w.heap.size+1+1;omega) _
   ·go_wp2_with fail
    obtain⟨y0,y1⟩:=fZ (V.alloc (.cells #[.int .i64 (cQ 0).1,.int .i64 M] 259)) _ _ (g2 _) ((cQ 0).1,M);rw[HE.out,if_neg (show ¬r.1 < 0 by omega),if_pos hb];refine bodyPost_ret (v:=rgV ((cQ 0).1,M)) (by simp[results,Tryz.results343,go_sem,aS,y0,y1]) rfl ⟨rfl,?_⟩;exact((h0.out.alloc Oa _).setCell (by show _<=w.heap.size+1+1;omega) _).setCell (by show _<=w.heap.size+1+1;omega) _
   ·go_wp2_with fail
    obtain⟨y0,y1⟩:=fZ (V.alloc (.cells #[.int .i64 (cQ 0).1,.int .i64 (cQ 0).2] 259)) _ _ (g2 _) ((cQ 0).1,(cQ 0).2);rw[HE.out,if_neg (show ¬r.1 < 0 by omega),if_neg (show ¬0 < r.2 by omega)];refine bodyPost_ret (v:=rgV ((cQ 0).1,(cQ 0).2)) (by simp[results,Tryz.results343,go_sem,aS,y0,y1]) rfl ⟨rfl,?_⟩;exact((h0.out.alloc Oa _).setCell (by show _<=w.heap.size+1+1;omega) _).setCell (by show _<=w.heap.size+1+1;omega) _
theorem vM(r:Rg)(n:Int)(w:World):Calls Tryz.prog 267 #[rgV r,.int .i64 n] w fun e w'=>e= .returned (rgV (dS r n))/\Below w.heap.size w w':=by
 have h6:dS r n=if r=cQ n then fF else if r.1=n then(w64 (n+1),r.2)else if r.2=n then(r.1,w64 (n - 1))else r:=rfl
 generalize dS r n=R at*;rw[aS r];obtain⟨b0,b1,HB,hz⟩:=aGU w (.cells #[.int .i64 r.1,.int .i64 r.2] 259) (.cells #[.int .i64 0,.int .i64 0] 259);have h2:Hid _:=h6;clear h6;go_enter Tryz.func267,Tryz.ntmps267
 go_upto_region 1 with fail
 generalize h7:(w.alloc (.cells #[.int .i64 r.1,.int .i64 r.2] 259)).alloc (.cells #[.int .i64 0,.int .i64 0] 259)=W0 at*;obtain⟨p0,p1,p2⟩:=aH b0;go_cut [5]from 5 (fun x w'=>x= .bool (decide (r=cQ n))/\Below w.heap.size w w'/\w'.heap[w.heap.size]?=some (.cells #[.int .i64 r.1,.int .i64 r.2] 259 (0,0))/\w'.heap[w.heap.size+1]?=some (.cells #[.int .i64 0,.int .i64 0] 259 (0,0)))
 case first=>
  rename_i J K' hJ hK
  have hq:(decide (r=cQ n))=((r.1==n)&&(r.2==n)):=by
   obtain⟨x,y⟩:=r;rw[Bool.eq_iff_iff];simp[cQ]
  rw[hq]at hJ;have h8:Hid (Below w.heap.size w W0):=HB;cases t0:(r.1==n)<;>cases t1:(r.2==n)
  all_goals
   rw[t0,t1]at hJ;go_region_with (go_at_call 306;refine(aHR n _).mono ?_;rintro e Wa ⟨rfl,ha⟩;have c0:=(ha.block _ (by show _ < W0.heap.size;omega)).trans b0;have c1:=(ha.block _ (by show _ < W0.heap.size;omega)).trans b1;obtain⟨s0,s1,s2⟩:=aH c0;rw[show rgV (cQ n)= .agg #[.int .i64 n,.int .i64 n]from rfl])
   all_goals (first|refine hK _ _ (Met.intro (hJ _ _ ?_))|refine Met.intro (hJ _ _ ?_)|refine hJ _ _ ?_)
   all_goals (repeat apply Exists.intro)
   all_goals refine⟨?_,rfl⟩
   all_goals exact⟨rfl,(h8.out.drew).trans (ha.mono (by show _<=W0.heap.size;omega)),c0,c1⟩
 case rest=>
 obtain⟨rfl,h0,c0,c1⟩:=hcut;clear b0 b1 p0 p1 p2 HB hz h7;have h0:Hid (Below w.heap.size w wc):=h0;obtain⟨p0,p1,p2⟩:=aH c0;obtain⟨q0,q1,q2⟩:=aH c1
 by_cases h1:r=cQ n
 ·have t0:decide (r=cQ n)=true:=decide_eq_true h1;have HE:Hid (R=fF):=h2.out.trans (if_pos h1);rw[t0];clear h2 h1 t0;go_wp2_with fail
  refine(aNB wc).mono ?_;rintro e U ⟨rfl,h4⟩;have e2:=(h4.block _ (qB c1)).trans c1;have hz:=qB c0;have h9:Hid (Below w.heap.size w U):=h0.out.trans (h4.mono Oa);clear p0 p1 p2 q0 q1 q2 c0 c1 h4;obtain⟨x0,x1,x2⟩:=aH e2;rw[aS fF];go_wp2_with fail
  obtain⟨y0,y1⟩:=fZ U _ _ e2 fF;rw[HE.out];refine bodyPost_ret (v:=rgV fF) (by simp[results,Tryz.results267,go_sem,aS,y0,y1]) rfl ⟨rfl,?_⟩;exact(h9.out.setCell (by show _<=w.heap.size+1;omega) _).setCell (by show _<=w.heap.size+1;omega) _
 ·have t0:decide (r=cQ n)=false:=decide_eq_false h1;have h5:Hid (R=if r.1=n then(w64 (n+1),r.2)else if r.2=n then(r.1,w64 (n - 1))else r):=h2.out.trans (if_neg h1);rw[t0];clear h2 h1 t0
  by_cases ha:r.1=n
  ·have t1:(r.1==n)=true:=by simp[ha]
   have HE:Hid (R=(w64 (n+1),r.2)):=h5.out.trans (if_pos ha);clear h5;go_wp2_with fail
   obtain⟨y0,y1⟩:=fZ (wc.setCell ⟨w.heap.size,0,none⟩ (.int .i64 (wrap64 (n+1)))) _ _ ((Om (by show _≠w.heap.size;omega)).trans c1) (wrap64 (n+1),r.2);rw[HE.out];refine bodyPost_ret (v:=rgV (wrap64 (n+1),r.2)) (by simp[results,Tryz.results267,go_sem,aS,y0,y1]) rfl ⟨rfl,?_⟩;exact((h0.out.setCell (by show _<=w.heap.size;omega) _).setCell (by show _<=w.heap.size+1;omega) _).setCell (by show _<=w.heap.size+1;omega) _
  ·have t1:(r.1==n)=false:=by simp[ha]
   have h3:Hid (R=if r.2=n then(r.1,w64 (n - 1))else r):=h5.out.trans (if_neg ha);clear h5
   by_cases hb:r.2=n
   ·have t2:(r.2==n)=true:=by simp[hb]
    have HE:Hid (R=(r.1,w64 (n - 1))):=h3.out.trans (if_pos hb);clear h3;go_wp2_with fail
    obtain⟨y0,y1⟩:=fZ (wc.setCell ⟨w.heap.size,1,none⟩ (.int .i64 (wrap64 (n - 1)))) _ _ ((Om (by show _≠w.heap.size;omega)).trans c1) (r.1,wrap64 (n - 1));rw[HE.out];refine bodyPost_ret (v:=rgV (r.1,wrap64 (n - 1))) (by simp[results,Tryz.results267,go_sem,aS,y0,y1]) rfl ⟨rfl,?_⟩;exact((h0.out.setCell (by show _<=w.heap.size;omega) _).setCell (by show _<=w.heap.size+1;omega) _).setCell (by show _<=w.heap.size+1;omega) _
   ·have t2:(r.2==n)=false:=by simp[hb]
    have HE:Hid (R=r):=h3.out.trans (if_neg hb);clear h3;go_wp2_with fail
    obtain⟨y0,y1⟩:=fZ wc _ _ (c1) r;rw[HE.out];refine bodyPost_ret (v:=rgV r) (by simp[results,Tryz.results267,go_sem,aS,y0,y1]) rfl ⟨rfl,?_⟩;exact(h0.out.setCell (by show _<=w.heap.size+1;omega) _).setCell (by show _<=w.heap.size+1;omega) _
abbrev Vr:=Nat->Rg
abbrev Fl:=Int->Bool
def vr0:Vr:=fun _=>(0,0)
def oT(f:Vr)(i:Nat)(v:Rg):Vr:=fun j=>if j=i then v else f j
def iD(F:Fl)(s:Int)(b:Bool):Fl:=fun j=>if j=s then b else F j
abbrev St:=Option Vr
def cC(s:St):Vr:=s.getD vr0
def hdR(l:List Rg):Rg:=l.headD (0,0)
def qL(op:Int)(a b:Rg):Bool:=
 if op=23 then decide (a.2 < b.1)else if op=24 then decide (a.2<=b.1)else if op=25 then decide (b.2 < a.1)else if op=26 then decide (b.2<=a.1)
 else if op=21 then eH a&&decide (a=b)else iU (jP a b)
def iK(vs:Vr):Tr->Rg
 | .nil=>bEE
 | .node _ _ a _ _=>if a.tag=0 then cQ a.val else vs a.which.toNat
def eU(vs:Vr):Tr->Bool
 | .nil=>true
 | .node _ _ a e q=>if a.tag=20 then eU vs e else
  match e with
  | .node _ _ c x y=>qL c.op (iK vs x) (iK vs y)&&eU vs q
  | .nil=>false
def nY(l:List Rg):Vr:=fun i=>l.getD i (0,0)
def exA(lens:Nat->Int)(fl:List Tr)(alive:Bool)(vs:Vr):Tr->Fl->List Rg × Fl
 | .nil,F=>([],F)
 | .node _ _ a l q,F=>
  if a.tag=0 then([cQ a.val],F)else if a.tag=1 then([vs a.which.toNat],F)
  else if a.tag=2 then
   ([bEE],iD (exA lens fl alive vs l F).2 a.site ((decide (0<=(hdR (exA lens fl alive vs l F).1).1)&&decide ((hdR (exA lens fl alive vs l F).1).2 < lens a.which.toNat))||!alive))
  else if a.tag=3 then
   ([bEE],if a.site= -1 then(exA lens fl alive vs l F).2 else iD (exA lens fl alive vs l F).2 a.site (eU (nY (exA lens fl alive vs l F).1) (aU (fl.getD a.which.toNat .nil))||!alive))
  else if a.tag=4\/a.tag=20 then exA lens fl alive vs l F
  else if a.tag=5 then([nG (hdR (exA lens fl alive vs l F).1)],(exA lens fl alive vs l F).2)
  else if a.tag=6 then
   (if a.op=27 then([kH (hdR (exA lens fl alive vs l F).1) (hdR (exA lens fl alive vs q (exA lens fl alive vs l F).2).1)],(exA lens fl alive vs q (exA lens fl alive vs l F).2).2)
    else if a.op=28 then([gX (hdR (exA lens fl alive vs l F).1) (hdR (exA lens fl alive vs q (exA lens fl alive vs l F).2).1)],(exA lens fl alive vs q (exA lens fl alive vs l F).2).2)
    else if a.op=29 then([gW (hdR (exA lens fl alive vs l F).1) (hdR (exA lens fl alive vs q (exA lens fl alive vs l F).2).1)],(exA lens fl alive vs q (exA lens fl alive vs l F).2).2)
    else([if a.op=30 then iQ (hdR (exA lens fl alive vs l F).1) (hdR (exA lens fl alive vs q (exA lens fl alive vs l F).2).1)else iO (hdR (exA lens fl alive vs l F).1) (hdR (exA lens fl alive vs q (exA lens fl alive vs l F).2).1)],iD (exA lens fl alive vs q (exA lens fl alive vs l F).2).2 a.site (!jD (hdR (exA lens fl alive vs q (exA lens fl alive vs l F).2).1) 0||!alive)))
  else if a.tag=15 then((exA lens fl alive vs l F).1++(exA lens fl alive vs q (exA lens fl alive vs l F).2).1,(exA lens fl alive vs q (exA lens fl alive vs l F).2).2)
  else([],F)
abbrev Sd:=Rg × Int
def cV:Tr->Int
 | .nil=>-1
 | .node _ _ a l _=>if a.tag=4 then cV l else if a.tag=1 then a.which else -1
def jY(s:St)(d:Sd)(lim:Rg):St:=
 match s with
 |none=>none
 |some vs=>if d.2= -1 then some vs else if iU (jP (vs d.2.toNat) lim)then none else some (oT vs d.2.toNat (jP (vs d.2.toNat) lim))
def jK(s:St)(a b:Sd)(far:Int):St:=
 if b.1.2 < -9223372036854775808+far\/9223372036854775807 - far < a.1.1 then none else jY (jY s a (aBW (b.1.2 - far))) b (tF (a.1.1+far))
def jA(s:St)(a b:Sd):St:=
 let s1:=if eH b.1 then jY s a (dS a.1 b.1.1)else s
 if eH a.1 then jY s1 b (dS b.1 a.1.1)else s1
def jW(s:St)(op:Int)(a b:Sd):St:=
 if op=23 then jK s a b 1 else if op=24 then jK s a b 0 else if op=25 then jK s b a 1 else if op=26 then jK s b a 0
 else if op=21 then jY (jY s a b.1) b a.1 else jA s a b
def aAB(op:Int):Int:=if op=23 then 26 else if op=24 then 25 else if op=25 then 24 else if op=26 then 23 else if op=21 then 22 else 21
def lF(s other:St):St:=
 match other with
 |none=>s
 |some t=>match s with
  |none=>some t
  |some h=>some fun i=>bQ (t i) (h i)
def cdA(lens:Nat->Int)(fl:List Tr):Tr->St->Fl->St × St × Fl
 | .nil,s,F=>(s,s,F)
 | .node _ _ a l q,s,F=>
  if a.tag=7 then
   let x:=exA lens fl s.isSome (cC s) l F
   let y:=exA lens fl s.isSome (cC s) q x.2
   (jW s a.op (hdR x.1,cV l) (hdR y.1,cV q),jW s (aAB a.op) (hdR x.1,cV l) (hdR y.1,cV q),y.2)
  else if a.op=32 then
   let x:=cdA lens fl l s F
   let y:=cdA lens fl q x.1 x.2.2
   (y.1,lF x.2.1 y.2.1,y.2.2)
  else
   let x:=cdA lens fl l s F
   let y:=cdA lens fl q x.2.1 x.2.2
   (lF x.1 y.1,y.2.1,y.2.2)
def dR:Tr->Nat->Bool
 | .nil,_=>false
 | .node _ _ a l q,i=>if a.tag=9 then decide (a.which.toNat=i)else dR l i||dR q i
def eJ(m:Nat->Bool)(vs after:Vr):Vr:=fun i=>if m i then cH (vs i) (after i)else vs i
def gL(m:Nat->Bool)(vs:Vr):Vr:=fun i=>if m i then bEE else vs i
def nJ(f g:Vr):Bool:=(List.range 12).any fun i=>decide (f i≠g i)
def whA(m:Nat->Bool)(c:St->Fl->St × St × Fl)(f:St->Fl->St × Fl):Nat->Nat->St->Fl->St × Fl
 |0,_,s,F=>(s,F)
 |n+1,round,s,F=>
  let x:=c s F
  let y:=f x.1 x.2.2
  match s,y.1 with
  |some vs,some after=>if nJ (eJ m vs after) vs then whA m c f n (round+1) (some (if round=3 then gL m (eJ m vs after)else eJ m vs after)) y.2 else(x.2.1,y.2)
  |_,_=>(x.2.1,y.2)
def stA(lens:Nat->Int)(fl:List Tr):Tr->St->Fl->St × Fl
 | .nil,s,F=>(s,F)
 | .node _ _ a l q,s,F=>
  if a.tag=20\/a.tag=18 then stA lens fl l s F
  else if a.tag=15 then stA lens fl q (stA lens fl l s F).1 (stA lens fl l s F).2
  else if a.tag=9 then(s.map fun vs=>oT vs a.which.toNat (hdR (exA lens fl s.isSome (cC s) l F).1),(exA lens fl s.isSome (cC s) l F).2)
  else if a.tag=10 then
   (s,(exA lens fl s.isSome (cC s) q (iD (exA lens fl s.isSome (cC s) l F).2 a.site ((decide (0<=(hdR (exA lens fl s.isSome (cC s) l F).1).1)&&decide ((hdR (exA lens fl s.isSome (cC s) l F).1).2 < lens a.which.toNat))||!s.isSome))).2)
  else if a.tag=11 then
   (match q with
     | .node _ _ _ x y=>
      let c:=cdA lens fl l s F
      let u:=stA lens fl x c.1 c.2.2
      let v:=stA lens fl y c.2.1 u.2
      (lF u.1 v.1,v.2)
     | .nil=>(s,F))
  else if a.tag=12 then whA (dR q) (cdA lens fl l) (stA lens fl q) 4 1 s F
  else if a.tag=13 then(none,(exA lens fl s.isSome (cC s) l F).2)
  else if a.tag=14 then(s,(exA lens fl s.isSome (cC s) l F).2)
  else(s,F)
def eN:Tr->St->St
 | .nil,s=>s
 | .node _ _ a e q,s=>if a.tag=20 then eN e s else
  match e with
  | .node _ _ c x y=>eN q (jW s c.op (iK (cC s) x,cV x) (iK (cC s) y,cV y))
  | .nil=>s
def nW(n:Nat):St:=some fun i=>if i < n then bEE else(0,0)
def fnA(lens:Nat->Int)(fl:List Tr)(e:Tr)(F:Fl):Fl:=(stA lens fl (bG e) (eN (aU e) (nW (gJ e))) F).2
def inR(r:Rg)(v:Int):Prop:=r.1<=v/\v<=r.2
def i64(v:Int):Prop:=-9223372036854775808<=v/\v<=9223372036854775807
structure bV(r:Rg):Prop where
 lo:-9223372036854775808<=r.1
 le:r.1<=r.2
 hi:r.2<=9223372036854775807
theorem inR.bd{r:Rg}{v:Int}(h:inR r v)(hr:bV r):i64 v:=⟨Int.le_trans hr.lo h.1,Int.le_trans h.2 hr.hi⟩
theorem bV.all:bV bEE:=⟨Ob,Ob,Ob⟩
theorem bV.one{n:Int}(h:i64 n):bV (cQ n):=⟨h.1,Int.le_refl _,h.2⟩
theorem inR.all{v:Int}(h:i64 v):inR bEE v:=h
theorem inR.one(n:Int):inR (cQ n) n:=⟨Int.le_refl _,Int.le_refl _⟩
theorem kE{v:Int}(h:i64 v):w64 v=v:=by unfold w64 wrap64;unfold i64 at h;omega
theorem gU(v:Int):i64 (w64 v):=by unfold w64 wrap64 i64;omega
theorem bV.meet{a b:Rg}(ha:bV a)(hb:bV b):bV (bQ a b):=by
 obtain⟨a1,a2,a3⟩:=ha;obtain⟨b1,b2,b3⟩:=hb;exact⟨by unfold bQ;dsimp only;omega,by unfold bQ;dsimp only;omega,by unfold bQ;dsimp only;omega⟩
theorem inR.cut{a b:Rg}{v:Int}(h:inR a v)(k:inR b v):inR (jP a b) v:=by unfold inR jP at*;dsimp only;omega
theorem bV.cut{a b:Rg}(ha:bV a)(he:iU (jP a b)=false):bV (jP a b):=by
 obtain⟨a1,a2,a3⟩:=ha;unfold iU at he;rw[decide_eq_false_iff_not]at he;unfold jP at*;dsimp only at*;exact⟨by dsimp only;omega,by dsimp only;omega,by dsimp only;omega⟩
theorem inR.neg{r:Rg}{v:Int}(hr:bV r)(h:inR r v):inR (nG r) (w64 (-v)):=by
 obtain⟨a1,a2,a3⟩:=hr;obtain⟨h1,h2⟩:=h;unfold nG jD
 split
 ·exact gU _
 ·rename_i hh;simp only[decide_eq_true_eq]at hh;refine⟨?_,?_⟩
  ·show w64 (-r.2)<=w64 (-v);rw[kE ⟨Oa,Oa⟩,kE ⟨Oa,Oa⟩];omega
  ·show w64 (-v)<=w64 (-r.1);rw[kE ⟨Oa,Oa⟩,kE ⟨Oa,Oa⟩];omega
theorem bV.neg{r:Rg}(hr:bV r):bV (nG r):=by
 have h1:=inR.neg hr (v:=r.1) ⟨Int.le_refl _,hr.le⟩;have h2:=inR.neg hr (v:=r.2) ⟨hr.le,Int.le_refl _⟩;unfold nG
 split
 ·exact bV.all
 ·rename_i hh;unfold nG at h1 h2;rw[if_neg hh]at h1 h2;exact⟨(gU _).1,Int.le_trans h1.1 h1.2,(gU _).2⟩
theorem bV.widen{a b:Rg}(ha:bV a):bV (cH a b):=by
 obtain⟨a1,a2,a3⟩:=ha;unfold cH;refine⟨?_,?_,?_⟩<;>dsimp only<;>split<;>(try split)<;>omega
theorem inR.widen{a b:Rg}{v:Int}(ha:bV a)(h:inR a v):inR (cH a b) v:=by
 obtain⟨a1,a2,a3⟩:=ha;obtain⟨h1,h2⟩:=h;unfold cH;refine⟨?_,?_⟩<;>dsimp only<;>split<;>omega
theorem tT(f:Int->Int->Int × Bool)(a b:Rg):nU f a b=bEE\/
 ((f a.1 b.1).2=true/\(f a.1 b.2).2=true/\(f a.2 b.1).2=true/\(f a.2 b.2).2=true/\
  nU f a b=bQ (bQ (bQ (bQ fF (cQ (f a.1 b.1).1)) (cQ (f a.1 b.2).1)) (cQ (f a.2 b.1).1)) (cQ (f a.2 b.2).1)):=by
 unfold nU zO;cases h1:(f a.1 b.1).2
 ·left;simp[mJ,h1]
 cases h2:(f a.1 b.2).2
 ·left;simp[mJ,h1,h2]
 cases h3:(f a.2 b.1).2
 ·left;simp[mJ,h1,h2,h3]
 cases h4:(f a.2 b.2).2
 ·left;simp[mJ,h1,h2,h3,h4]
 ·right;simp[mJ,h1,h2,h3,h4]
theorem aAX{p q s t v:Int}(hp:i64 p)(hq:i64 q)(hs:i64 s)(ht:i64 t)(h1:p<=v\/q<=v\/s<=v\/t<=v)(h2:v<=p\/v<=q\/v<=s\/v<=t):
 inR (bQ (bQ (bQ (bQ fF (cQ p)) (cQ q)) (cQ s)) (cQ t)) v:=by
 unfold i64 at*;unfold inR bQ fF cQ;dsimp only;omega
theorem aC2{p q s t:Int}(hp:i64 p)(hq:i64 q)(hs:i64 s)(ht:i64 t):
 bV (bQ (bQ (bQ (bQ fF (cQ p)) (cQ q)) (cQ s)) (cQ t)):=by
 unfold i64 at*;unfold bQ fF cQ;exact⟨by dsimp only;omega,by dsimp only;omega,by dsimp only;omega⟩
theorem aNZ{x y:Int}(hx:i64 x)(hy:i64 y)(h:(aAV x y).2=true):(aAV x y).1=x+y/\i64 (x+y):=by
 unfold aAV at*;unfold w64 wrap64 i64 at*;simp only[beq_iff_eq,decide_eq_decide]at h;dsimp only;omega
theorem aKF{x y:Int}(hx:i64 x)(hy:i64 y)(h:(wE x y).2=true):(wE x y).1=x - y/\i64 (x - y):=by
 unfold wE at*;unfold w64 wrap64 i64 at*;simp only[beq_iff_eq,decide_eq_decide]at h;dsimp only;omega
theorem xU{f:Int->Int->Int × Bool}{a b:Rg}(ha:bV a)(hb:bV b)(hf:∀ x y,i64 x->i64 y->(f x y).2=true->i64 (f x y).1):bV (nU f a b):=by
 have a1:i64 a.1:=⟨ha.lo,Int.le_trans ha.le ha.hi⟩;have a2:i64 a.2:=⟨Int.le_trans ha.lo ha.le,ha.hi⟩;have b1:i64 b.1:=⟨hb.lo,Int.le_trans hb.le hb.hi⟩;have b2:i64 b.2:=⟨Int.le_trans hb.lo hb.le,hb.hi⟩;rcases tT f a b with h|⟨h1,h2,h3,h4,h⟩
 ·rw[h];exact bV.all
 ·rw[h];exact aC2 (hf _ _ a1 b1 h1) (hf _ _ a1 b2 h2) (hf _ _ a2 b1 h3) (hf _ _ a2 b2 h4)
theorem aCF{f:Int->Int->Int × Bool}{g:Int->Int->Int}{a b:Rg}(ha:bV a)(hb:bV b)(hf:∀ x y,i64 x->i64 y->(f x y).2=true->(f x y).1=g x y/\i64 (g x y)){v u:Int}(h0:g a.1 b.1<=g v u\/g a.1 b.2<=g v u\/g a.2 b.1<=g v u\/g a.2 b.2<=g v u)(h5:g v u<=g a.1 b.1\/g v u<=g a.1 b.2\/g v u<=g a.2 b.1\/g v u<=g a.2 b.2):inR (nU f a b) (w64 (g v u)):=by
 have a1:i64 a.1:=⟨ha.lo,Int.le_trans ha.le ha.hi⟩;have a2:i64 a.2:=⟨Int.le_trans ha.lo ha.le,ha.hi⟩;have b1:i64 b.1:=⟨hb.lo,Int.le_trans hb.le hb.hi⟩;have b2:i64 b.2:=⟨Int.le_trans hb.lo hb.le,hb.hi⟩;rcases tT f a b with h|⟨h1,h2,h3,h4,h⟩
 ·rw[h];exact gU _
 ·obtain⟨e1,k1⟩:=hf _ _ a1 b1 h1;obtain⟨e2,k2⟩:=hf _ _ a1 b2 h2;obtain⟨e3,k3⟩:=hf _ _ a2 b1 h3;obtain⟨e4,k4⟩:=hf _ _ a2 b2 h4;rw[h,e1,e2,e3,e4];have hv:i64 (g v u):=by unfold i64 at*;omega
  rw[kE hv];exact aAX k1 k2 k3 k4 h0 h5
theorem inR.plus{a b:Rg}{v u:Int}(ha:bV a)(hb:bV b)(hv:inR a v)(hu:inR b u):inR (kH a b) (w64 (v+u)):=
 aCF (g:=fun x y=>x+y) ha hb (fun _ _ h1 h2 h3=>aNZ h1 h2 h3) (by obtain⟨_,_⟩:=hv;obtain⟨_,_⟩:=hu;omega) (by obtain⟨_,_⟩:=hv;obtain⟨_,_⟩:=hu;omega)
theorem inR.minus{a b:Rg}{v u:Int}(ha:bV a)(hb:bV b)(hv:inR a v)(hu:inR b u):inR (gX a b) (w64 (v - u)):=
 aCF (g:=fun x y=>x - y) ha hb (fun _ _ h1 h2 h3=>aKF h1 h2 h3) (by obtain⟨_,_⟩:=hv;obtain⟨_,_⟩:=hu;omega) (by obtain⟨_,_⟩:=hv;obtain⟨_,_⟩:=hu;omega)
theorem bV.plus{a b:Rg}(ha:bV a)(hb:bV b):bV (kH a b):=xU ha hb fun _ _ _ _ _=>gU _
theorem bV.minus{a b:Rg}(ha:bV a)(hb:bV b):bV (gX a b):=xU ha hb fun _ _ _ _ _=>gU _
theorem aE1{a1 a2 b1 b2 v u:Int}(h1:a1<=v)(h2:v<=a2)(h3:b1<=u)(h4:u<=b2):
 (a1*b1<=v*u\/a1*b2<=v*u\/a2*b1<=v*u\/a2*b2<=v*u)/\(v*u<=a1*b1\/v*u<=a1*b2\/v*u<=a2*b1\/v*u<=a2*b2):=by
 have one:∀ c:Int,(c*b1<=c*u\/c*b2<=c*u)/\(c*u<=c*b1\/c*u<=c*b2):=fun c=>by
  rcases Int.le_total 0 c with h|h
  ·exact⟨.inl (Int.mul_le_mul_of_nonneg_left h3 h),.inr (Int.mul_le_mul_of_nonneg_left h4 h)⟩
  ·exact⟨.inr (Int.mul_le_mul_of_nonpos_left h h4),.inl (Int.mul_le_mul_of_nonpos_left h h3)⟩
 have two:(a1*u<=v*u\/a2*u<=v*u)/\(v*u<=a1*u\/v*u<=a2*u):=by
  rcases Int.le_total 0 u with h|h
  ·exact⟨.inl (Int.mul_le_mul_of_nonneg_right h1 h),.inr (Int.mul_le_mul_of_nonneg_right h2 h)⟩
  ·exact⟨.inr (Int.mul_le_mul_of_nonpos_right h2 h),.inl (Int.mul_le_mul_of_nonpos_right h1 h)⟩
 have x1:=one a1;have x2:=one a2;generalize a1*b1=p at*;generalize a1*b2=q at*;generalize a2*b1=r at*;generalize a2*b2=s at*;generalize a1*u=c at*;generalize a2*u=d at*;generalize v*u=e at*;clear one h1 h2 h3 h4;omega
theorem aB6{x y:Int}(hx:i64 x)(hy:i64 y)(h:(mW x y).2=true):(mW x y).1=x*y/\i64 (x*y):=by
 unfold mW at*
 split at h
 ·rename_i h0;subst h0;rw[if_pos rfl,Int.zero_mul];exact⟨rfl,by unfold i64;omega⟩
 ·rename_i h0;rw[if_neg h0]
  split at h
  ·rename_i h1;subst h1;rw[if_pos rfl];simp only[ne_eq,decide_eq_true_eq]at h;have:i64 (-1*y):=by unfold i64 at*;omega
   exact⟨kE this,this⟩
  ·rename_i h1;rw[if_neg h1];simp only[decide_eq_true_eq]at h;have hp:=gU (x*y)
   obtain⟨k,hk⟩:∃ k:Int,w64 (x*y)=x*y+k*18446744073709551616:=by
    unfold w64 wrap64;generalize x*y=z;exact⟨-((z+9223372036854775808) / 18446744073709551616),Oa⟩
   generalize w64 (x*y)=p at*;have h3:=Int.tmod_add_mul_tdiv p x
   have hr:p.tmod x < 9223372036854775808/\-9223372036854775808 < p.tmod x:=by
    have l1:=Int.natAbs_tmod p x;have l2:p.natAbs % x.natAbs < x.natAbs:=Nat.mod_lt _ Oa;unfold i64 at hx;omega
   have hq:i64 (p.tdiv x):=by
    by_cases h2:x=1
    ·subst h2;rw[Int.tdiv_one];exact hp
    ·have l1:(p.tdiv x).natAbs=p.natAbs / x.natAbs:=Int.natAbs_tdiv p x;have l2:p.natAbs / x.natAbs<=p.natAbs / 2:=Nat.div_le_div_left Oa Oa;unfold i64 at*;omega
   rw[kE hq]at h;rw[h]at h3
   have:k=0:=by
    generalize x*y=z at*;omega
   subst this;have e:p=x*y:=Oa
   exact⟨e,e ▸ hp⟩
theorem inR.times{a b:Rg}{v u:Int}(ha:bV a)(hb:bV b)(hv:inR a v)(hu:inR b u):inR (gW a b) (w64 (v*u)):=by
 have h:=aE1 hv.1 hv.2 hu.1 hu.2;exact aCF (g:=fun x y=>x*y) ha hb (fun _ _ h1 h2 h3=>aB6 h1 h2 h3) h.1 h.2
theorem bV.times{a b:Rg}(ha:bV a)(hb:bV b):bV (gW a b):=xU ha hb fun x y h1 h2 h3=>by
 obtain⟨e,h⟩:=aB6 h1 h2 h3;rw[e];exact h
theorem aAM{u v v':Int}(hu:0 < u)(h:v<=v'):v.tdiv u<=v'.tdiv u:=by
 have e1:(v.tdiv u).natAbs=v.natAbs / u.natAbs:=Int.natAbs_tdiv v u;have e2:(v'.tdiv u).natAbs=v'.natAbs / u.natAbs:=Int.natAbs_tdiv v' u;rcases Int.le_total 0 v with h0|h0
 ·have p1:=Int.tdiv_nonneg h0 (Int.le_of_lt hu);have p2:=Int.tdiv_nonneg (Int.le_trans h0 h) (Int.le_of_lt hu);have:=Nat.div_le_div_right (c:=u.natAbs) (show v.natAbs<=v'.natAbs by omega);omega
 ·have p1:0<=(-v).tdiv u:=Int.tdiv_nonneg Oa (Int.le_of_lt hu);rw[Int.neg_tdiv]at p1;rcases Int.le_total 0 v' with h1|h1
  ·have p2:=Int.tdiv_nonneg h1 (Int.le_of_lt hu);omega
  ·have p2:0<=(-v').tdiv u:=Int.tdiv_nonneg Oa (Int.le_of_lt hu);rw[Int.neg_tdiv]at p2;have:=Nat.div_le_div_right (c:=u.natAbs) (show v'.natAbs<=v.natAbs by omega);omega
theorem pQ{c u u':Int}(hu:0 < u)(h:u<=u'):(0<=c->c.tdiv u'<=c.tdiv u)/\(c<=0->c.tdiv u<=c.tdiv u'):=by
 have e1:(c.tdiv u).natAbs=c.natAbs / u.natAbs:=Int.natAbs_tdiv c u;have e2:(c.tdiv u').natAbs=c.natAbs / u'.natAbs:=Int.natAbs_tdiv c u';have hd:c.natAbs / u'.natAbs<=c.natAbs / u.natAbs:=Nat.div_le_div_left Oa Oa;constructor
 ·intro h0;have p1:=Int.tdiv_nonneg h0 (Int.le_of_lt hu);have p2:=Int.tdiv_nonneg h0 (show 0<=u' by omega);omega
 ·intro h0;have p1:0<=(-c).tdiv u:=Int.tdiv_nonneg Oa (Int.le_of_lt hu);have p2:0<=(-c).tdiv u':=Int.tdiv_nonneg Oa Oa;rw[Int.neg_tdiv]at p1 p2;omega
theorem uE{a1 a2 b1 b2 v u:Int}(h0:0 < b1)(h1:a1<=v)(h2:v<=a2)(h3:b1<=u)(h4:u<=b2):
 (a1.tdiv b1<=v.tdiv u\/a1.tdiv b2<=v.tdiv u\/a2.tdiv b1<=v.tdiv u\/a2.tdiv b2<=v.tdiv u)/\(v.tdiv u<=a1.tdiv b1\/v.tdiv u<=a1.tdiv b2\/v.tdiv u<=a2.tdiv b1\/v.tdiv u<=a2.tdiv b2):=by
 have l1:=aAM (u:=u) Oa h1;have l2:=aAM (u:=u) Oa h2;have r1:=pQ (c:=a1) h0 h3;have r2:=pQ (c:=a1) (show 0 < u by omega) h4;have r3:=pQ (c:=a2) h0 h3;have r4:=pQ (c:=a2) (show 0 < u by omega) h4;rcases Int.le_total 0 a1 with g1|g1<;>rcases Int.le_total 0 a2 with g2|g2<;>simp only[g1,g2,true_implies]at r1 r2 r3 r4<;>omega
theorem vQ{a1 a2 b1 b2 v u:Int}(h0:b2 < 0)(h1:a1<=v)(h2:v<=a2)(h3:b1<=u)(h4:u<=b2):
 (a1.tdiv b1<=v.tdiv u\/a1.tdiv b2<=v.tdiv u\/a2.tdiv b1<=v.tdiv u\/a2.tdiv b2<=v.tdiv u)/\(v.tdiv u<=a1.tdiv b1\/v.tdiv u<=a1.tdiv b2\/v.tdiv u<=a2.tdiv b1\/v.tdiv u<=a2.tdiv b2):=by
 have h:=uE (a1:=a1) (a2:=a2) (b1:=-b2) (b2:=-b1) (v:=v) (u:=-u) Oa h1 h2 Oa Oa;rw[Int.tdiv_neg,Int.tdiv_neg,Int.tdiv_neg,Int.tdiv_neg,Int.tdiv_neg]at h;omega
theorem uY{x y:Int}(hx:i64 x)(hm:x≠-9223372036854775808):(wX x y).1=x.tdiv y/\i64 (x.tdiv y):=by
 have e1:(x.tdiv y).natAbs=x.natAbs / y.natAbs:=Int.natAbs_tdiv x y;have e2:x.natAbs / y.natAbs<=x.natAbs:=Nat.div_le_self _ _;have:i64 (x.tdiv y):=by unfold i64 at*;omega
 exact⟨kE this,this⟩
theorem inR.over{a b:Rg}{v u:Int}(ha:bV a)(hb:bV b)(hv:inR a v)(hu:inR b u):inR (iQ a b) (w64 (v.tdiv u)):=by
 unfold iQ
 split
 ·exact gU _
 ·rename_i hh;simp only[jD,Bool.or_eq_true,decide_eq_true_eq,not_or]at hh;obtain⟨g1,g2⟩:=hh;obtain⟨c1,c2,c3⟩:=ha;obtain⟨d1,d2,d3⟩:=hb;obtain⟨v1,v2⟩:=hv;obtain⟨u1,u2⟩:=hu;have a1:i64 a.1:=⟨c1,Oa⟩;have a2:i64 a.2:=⟨Oa,c3⟩;have m1:a.1≠-9223372036854775808:=Oa
  have m2:a.2≠-9223372036854775808:=Oa
  have h0:(a.1.tdiv b.1<=v.tdiv u\/a.1.tdiv b.2<=v.tdiv u\/a.2.tdiv b.1<=v.tdiv u\/a.2.tdiv b.2<=v.tdiv u)/\(v.tdiv u<=a.1.tdiv b.1\/v.tdiv u<=a.1.tdiv b.2\/v.tdiv u<=a.2.tdiv b.1\/v.tdiv u<=a.2.tdiv b.2):=by
   rcases Int.lt_or_lt_of_ne (show b.1≠0 by omega)with h|h
   ·exact vQ Oa v1 v2 u1 u2
   ·exact uE h v1 v2 u1 u2
  rcases tT wX a b with h|⟨_,_,_,_,h⟩
  ·rw[h];exact gU _
  ·obtain⟨e1,k1⟩:=uY (y:=b.1) a1 m1;obtain⟨e2,k2⟩:=uY (y:=b.2) a1 m1;obtain⟨e3,k3⟩:=uY (y:=b.1) a2 m2;obtain⟨e4,k4⟩:=uY (y:=b.2) a2 m2;rw[h,e1,e2,e3,e4];have h1:i64 (v.tdiv u):=by unfold i64 at*;omega
   rw[kE h1];exact aAX k1 k2 k3 k4 h0.1 h0.2
theorem bV.over{a b:Rg}(ha:bV a)(hb:bV b):bV (iQ a b):=by
 unfold iQ
 split
 ·exact bV.all
 ·exact xU ha hb fun _ _ _ _ _=>gU _
theorem aDS{b:Rg}(hb:bV b)(h0:b.1≠0)(hm:b.1≠-9223372036854775808):wW b=b.1.natAbs - 1/\(0:Int)<=b.1.natAbs - 1/\(b.1.natAbs:Int)<=9223372036854775807:=by
 obtain⟨d1,d2,d3⟩:=hb;unfold wW;have e:w64 (-b.1)= -b.1:=kE ⟨Oa,Oa⟩;rw[e,kE ⟨Oa,Oa⟩];omega
theorem inR.rest{a b:Rg}{v u:Int}(hb:bV b)(hv:inR a v)(hu:inR b u)(hv64:i64 v):inR (iO a b) (v.tmod u):=by
 have l1:(v.tmod u).natAbs=v.natAbs % u.natAbs:=Int.natAbs_tmod v u;have l3:v.natAbs % u.natAbs<=v.natAbs:=Nat.mod_le _ _;have s1:0<=v->0<=v.tmod u:=fun h=>Int.tmod_nonneg _ h
 have s2:v<=0->v.tmod u<=0:=fun h=>by
  have:=Int.tmod_nonneg u (show 0<=-v by omega);rw[Int.neg_tmod]at this;omega
 unfold iO
 split
 ·show i64 _;unfold i64 at*;omega
 ·rename_i hh;simp only[eH,Bool.or_eq_true,Bool.not_eq_true',decide_eq_true_eq,decide_eq_false_iff_not,not_or,Classical.not_not]at hh;obtain⟨⟨g1,g2⟩,g3⟩:=hh;obtain⟨u1,u2⟩:=hu;obtain⟨v1,v2⟩:=hv;have hu:u=b.1:=Oa
  obtain⟨m1,m2,m3⟩:=aDS hb g2 g3;rw[m1,kE ⟨Oa,Oa⟩];have l2:v.natAbs % u.natAbs < u.natAbs:=Nat.mod_lt _ Oa;rw[hu]at l1 l2 l3 s1 s2 ⊢;refine⟨?_,?_⟩<;>dsimp only<;>split<;>omega
theorem bV.rest{a b:Rg}(hb:bV b):bV (iO a b):=by
 unfold iO
 split
 ·exact bV.all
 ·rename_i hh;simp only[eH,Bool.or_eq_true,Bool.not_eq_true',decide_eq_true_eq,decide_eq_false_iff_not,not_or,Classical.not_not]at hh;obtain⟨⟨g1,g2⟩,g3⟩:=hh;obtain⟨m1,m2,m3⟩:=aDS hb g2 g3;rw[m1,kE ⟨Oa,Oa⟩];refine⟨?_,?_,?_⟩<;>dsimp only<;>split<;>(try split)<;>omega
end Go.Proofs.YtikffmloeifkpaaGreatDoor
