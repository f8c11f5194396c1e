/- Contracts. -/
import Derived.Test.YtikffmloeifkpaaGreatDoorQ06
import Derived.Deep.LoopGhost
set_option maxHeartbeats 4000000
set_option maxRecDepth 100000
namespace Go.Proofs.YtikffmloeifkpaaGreatDoor
open Go.RowKit Go.Lib Go.Deep
def jL(T:List Tok)(g cap b:Nat)(w:World)(q:Rd × Tr)(val:Tr->Value):Ending->World->Prop:=
 fun e w'=>∃ t,e= .returned (val t)/\er t=q.2/\New w.heap.size w' t/\RdW T g cap b q.1 w'/\Ex b w w'
def dI(T:List Tok)(g cap b f:Nat)(S:Pr)(D:Rd->Prop):Prop:=
 ∀ r w,RdW T g cap b r w->D r->Calls Tryz.prog f #[.pointer (some ⟨b,0,none⟩)] w (jL T g cap b w (S r) bCH)
def Dm(T:List Tok)(n q:Nat)(r:Rd):Prop:=(T.length - r.next)*16+q < n/\0<=r.nest/\r.nest+n<=1000000
theorem Dm.adv{T:List Tok}{n q:Nat}{r r':Rd}(h:Dm T n q r)(a:Adv T r r'):Dm T n q r':=by
 obtain⟨h1,h2,h3⟩:=h;have:=a.ge;exact⟨Oa,by rw[a.nest];exact h2,by rw[a.nest];exact h3⟩
def fv(f b:Nat):Value:= .func (Fn.func f) #[.pointer (some ⟨b,0,none⟩)] #[]
theorem qS{T:List Tok}{r:Rd}{ks:List Int}(hs:aN T r ks=true):(r.take T ks).next=r.next+1:=by
 unfold Rd.take;rw[if_pos hs];rfl
theorem lW{T:List Tok}{r:Rd}{ks:List Int}(hs:aN T r ks=true):(r.skips T ks).next=r.next+1:=by
 unfold Rd.skips;rw[if_pos hs];rfl
theorem RdW.ends{T:List Tok}{g cap b:Nat}{r:Rd}{w:World}(h:RdW T g cap b r w):cY T:=h.last
theorem aBF(T:List Tok)(g cap b f n qr k:Nat)(S:Pr)(ops:List Int)(cp:Nat)(r:Rd)(w:World)(hf:∀ args wx,(callFunc f args).run Tryz.prog wx= .ok (.enter f args) wx)(hS:dI T g cap b f S (Dm T n qr))(hG:aZ T S)(hO:So 0 7 S)(h:RdW T g cap b r w)(hd:Dm T n qr r)(hk:bCN w k ops)(h6:k≠b)(hl:ops.length<=100)(h0:aQ ops 0=false):
 Calls Tryz.prog 352 #[.pointer (some ⟨b,0,none⟩),fv f b,.slice (some ⟨k,0,none⟩) ops.length cp] w (jL T g cap b w (lA T S ops n r) bCH):=by
 have HS:Hid (dI T g cap b f S (Dm T n qr)):=hS;have HG:Hid (aZ T S):=hG;have HO:Hid (So 0 7 S):=hO;clear hS hG hO;unfold fv;go_enter Tryz.func352,Tryz.ntmps352
 go_wp2_with fail
 refine(HS.out r w h hd).mono ?_;rintro e w1 ⟨t,rfl,ht,it,h1,e1⟩;have HT:Hid (er t=(S r).2):=ht;clear ht;have y5:bCN w1 k ops:=hk.ex e1 h6;have a1:=HG.out r h.lt;have y1:=hd.adv a1;go_wp2_with fail
 go_loopg [7] n (fun m v wr=>∃ (rc:Rd) (tc:Tr),v=bCH tc/\New w.heap.size wr tc/\RdW T g cap b rc wr/\Ex b w wr/\bCN wr k ops/\Dm T n qr rc/\T.length - rc.next<=m/\(∃ a x y,er tc=mk a x y/\0<=a.tag/\a.tag < 7)/\bCL T S ops m rc (er tc)=lA T S ops n r)
 case atStart=>
  refine⟨_,t,rfl,it,h1,e1,y5,y1,?_,?_,?_⟩
  ·have:=y1.1;omega
  ·rw[HT.out];exact HO.out r
  ·rw[HT.out];rfl
 case round=>
  obtain⟨rc,tc,rfl,itc,hc,ec,k1,k3,hm,y3,h3⟩:=hrel;have HR:Hid (bCL T S ops gk rc (er tc)=lA T S ops n r):=h3;obtain⟨sa,sx,sy,k0,_,hst⟩:=y3;obtain⟨u,p,hv⟩:=aUJ k0 Oa;have HV:Hid (bCH tc= .iface u (.pointer (some p))):=hv;have HE:Hid (er tc=mk sa sx sy):=k0;rw[hv];clear h3 hv k0;go_wp2_with fail
  refine(gB T g cap b rc k cp ops wr hc k1 hl).mono ?_;rintro e w2 ⟨rfl,nn,rfl⟩;have h2:=hc.drewN nn;have ec2:=ec.drewN nn;have it2:=itc.ex hc ((Ex.refl b wr).drewN nn);have k2:bCN (wr.drewN nn) k ops:=k1.ex ((Ex.refl b wr).drewN nn) h6;generalize wr.drewN nn=W2 at*;clear hc itc ec k1;cases hs:aN T rc ops
  ·have h7:Hid (lA T S ops n r=(rc,er tc)):=by
    unfold Hid;rw[<-HR.out];cases gk with
    |zero=>rfl
    |succ gk=>show(if _ then _ else _)=_;rw[if_neg (by rw[hs];decide)]
   go_wp2;go_ret;exact⟨tc,by rw[HV.out];rfl,by rw[h7.out],it2,by rw[h7.out];exact h2,ec2⟩
  ·go_wp2_with fail
   refine(fG T g cap b rc k cp ops W2 h2 k2 hl h0).mono ?_;rintro e W3 ⟨rfl,h8,e3⟩;have it3:=it2.ex h2 e3;have k8:=k2.ex e3 h6;have ec3:=ec2.trans e3;have a3:=aP h2.ends h2.lt h0;have y0:=k3.adv a3;have k7:=qS hs;have HN:Hid ((rc.take T ops).next=rc.next+1):=k7;have hlt2:=h2.lt;generalize hq:cN T rc ops=q at*;have HQ:Hid (cN T rc ops=q):=hq;clear k7 hq;rw[Tok.val_eq];have h4:=(h8.alloc (.cells #[.int .i64 q.kind,.int .i64 q.pos,.string q.text,.int .i64 q.value] 143)).drew;have e4:=((Ex.refl b W3).alloc (.cells #[.int .i64 q.kind,.int .i64 q.pos,.string q.text,.int .i64 q.value] 143)).drew;have n4:(W3.alloc (.cells #[.int .i64 q.kind,.int .i64 q.pos,.string q.text,.int .i64 q.value] 143)).drew.heap[W3.heap.size]?=some (.cells #[.int .i64 q.kind,.int .i64 q.pos,.string q.text,.int .i64 q.value] 143 (0,0)):=Qb W3 _;have y4:W3.heap.size≠b:=by have:=h8.size;omega
   go_wp2_with fail
   have m0:=(dG n4).1;have m1:=(dG n4).2.1
   go_region_held3 (fun w'=>w'.cell? ⟨W3.heap.size,0,none⟩=some (.int .i64 q.kind)/\w'.cell? ⟨W3.heap.size,1,none⟩=some (.int .i64 q.pos))
    (first
      |(refine⟨?_,?_⟩<;>assumption)
      |go_keep)
    ((refine eC rfl f #[.pointer (some ⟨b,0,none⟩)] _ (by go_simp) (HS.out _ _ h4 y0) ?_;rintro e W5 ⟨t5,rfl,k6,it5,h5,e5⟩;refine⟨_,rfl,?_⟩;have k4:Hid (er t5=(S (rc.take T ops)).2):=k6;clear k6;have n5:=(e5.block W3.heap.size (Oo n4) y4).trans n4;have p0:=(dG n5).1;have p1:=(dG n5).2.1;obtain⟨ya,yx,yy,k5,_,hyt⟩:=HO.out (rc.take T ops);obtain⟨u5,p5,h9⟩:=aUJ (k4.out.trans k5) Oa;have y2:Hid (bCH t5= .iface u5 (.pointer (some p5))):=h9;rw[h9];clear h9 k5))
   obtain⟨m,rfl⟩:=Oj gk;have a5:=a3.trans (HG.out _ a3.lt);have k9:=k3.adv a5;have ic5:=(it3.ex h8 e4).ex h4 e5;have e6:=(Ex.refl b W5).alloc (.cells #[.int .i64 q.kind,.int .i64 q.pos,.iface u (.pointer (some p)),.iface u5 (.pointer (some p5)),.int .i64 0] 405)
   have fin:∃ (rc:Rd) (tc:Tr),Value.iface 403 (.pointer (some ⟨W5.heap.size,0,none⟩))=bCH tc/\New w.heap.size (W5.alloc (.cells #[.int .i64 q.kind,.int .i64 q.pos,.iface u (.pointer (some p)),.iface u5 (.pointer (some p5)),.int .i64 0] 405)) tc/\
    RdW T g cap b rc (W5.alloc (.cells #[.int .i64 q.kind,.int .i64 q.pos,.iface u (.pointer (some p)),.iface u5 (.pointer (some p5)),.int .i64 0] 405))/\
    Ex b w (W5.alloc (.cells #[.int .i64 q.kind,.int .i64 q.pos,.iface u (.pointer (some p)),.iface u5 (.pointer (some p5)),.int .i64 0] 405))/\
    bCN (W5.alloc (.cells #[.int .i64 q.kind,.int .i64 q.pos,.iface u (.pointer (some p)),.iface u5 (.pointer (some p5)),.int .i64 0] 405)) k ops/\Dm T n qr rc/\T.length - rc.next<=m/\
    (∃ a x y,er tc=mk a x y/\0<=a.tag/\a.tag < 7)/\bCL T S ops m rc (er tc)=lA T S ops n r:=by
    refine⟨_,.node W5.heap.size 0 {tag:=6,op:=q.kind,pos:=q.pos} tc t5,rfl,New.node (ic5.ex h5 e6) ((it5.ex h5 e6).mono (ec3.trans e4).size) (fun _=>((ec3.trans e4).trans e5).size) Od ?_,h5.alloc _,((ec3.trans e4).trans e5).alloc _,((k8.ex e4 h6).ex e5 h6).alloc _,k9,?_,⟨_,_,_,rfl,Od,Od⟩,?_⟩
    ·exact⟨_,Qb W5 _,rfl,rfl,by rw[HV.out];rfl,by rw[y2.out];rfl,rfl⟩
    ·have:=(HG.out _ a3.lt).ge;have:=HN.out;omega
    ·rw[<-HR.out];show _=(if _ then _ else _);rw[if_pos hs,HQ.out];show bCL T S ops m _ (.node 0 0 _ (er tc) (er t5))=_;rw[k4.out];rfl
   clear HR HS HG HO HT HV HE HN HQ k4 y2 it2 it3 it5 ic5 h2 h8 h4 h5 e3 e4 e5 e6 a3 a5 y0 k9 k3 ec2 ec3 k2 k8;go_wp2;go_roundg m
   case rel=>exact fin
   case measure=>omega
theorem aAZ(T:List Tok)(g cap b f n qr:Nat)(S:Pr)(op:Int)(r:Rd)(w:World)(hf:∀ args wx,(callFunc f args).run Tryz.prog wx= .ok (.enter f args) wx)(hS:dI T g cap b f S (Dm T n qr))(hG:aZ T S)(hO:So 7 9 S)(h:RdW T g cap b r w)(hd:Dm T n qr r)(h0:aQ [op] 0=false):
 Calls Tryz.prog 333 #[.pointer (some ⟨b,0,none⟩),.int .i64 op,fv f b] w (jL T g cap b w (kK T S op n r) bCH):=by
 have HS:Hid (dI T g cap b f S (Dm T n qr)):=hS;have HG:Hid (aZ T S):=hG;have HO:Hid (So 7 9 S):=hO;clear hS hG hO;unfold fv;go_enter Tryz.func333,Tryz.ntmps333
 go_wp2_with fail
 refine(HS.out r w h hd).mono ?_;rintro e w1 ⟨t,rfl,ht,it,h1,e1⟩;have HT:Hid (er t=(S r).2):=ht;clear ht;have a1:=HG.out r h.lt;have k8:=hd.adv a1;go_wp2_with fail
 go_loopg [7] n (fun m v wr=>∃ (rc:Rd) (tc:Tr),v=bCH tc/\New w.heap.size wr tc/\RdW T g cap b rc wr/\Ex b w wr/\Dm T n qr rc/\T.length - rc.next<=m/\(∃ a x y,er tc=mk a x y/\7<=a.tag/\a.tag < 9)/\gD T S op m rc (er tc)=kK T S op n r)
 case atStart=>
  refine⟨_,t,rfl,it,h1,e1,k8,?_,?_,?_⟩
  ·have:=k8.1;omega
  ·rw[HT.out];exact HO.out r
  ·rw[HT.out];rfl
 case round=>
  obtain⟨rc,tc,rfl,itc,hc,ec,h9,hm,y0,h2⟩:=hrel;have HR:Hid (gD T S op gk rc (er tc)=kK T S op n r):=h2;obtain⟨sa,sx,sy,h7,_,hst⟩:=y0;obtain⟨u,p,hv⟩:=aUJ h7 Oa;have HV:Hid (bCH tc= .iface u (.pointer (some p))):=hv;have HE:Hid (er tc=mk sa sx sy):=h7;rw[hv];clear h2 hv h7;have k0:=hc.alloc (.cells #[.int .i64 op] 141);have e2:=(Ex.refl b wr).alloc (.cells #[.int .i64 op] 141);have it2:=itc.ex hc e2;have k5:=bM wr [op] #[.int .i64 op] rfl;go_wp2_with fail
  refine(lL T g cap b rc wr.heap.size 1 [op] _ k0 k5 Od h0).mono ?_;rintro e W3 ⟨rfl,h4,e3⟩;have it3:=it2.ex k0 e3;have ec3:=(ec.trans e2).trans e3;have h8:=hc.lt;have a3:=dU hc.ends h8 h0;have k7:=h9.adv a3;cases hs:aN T rc [op]
  ·have k4:rc.skips T [op]=rc:=by unfold Rd.skips;rw[hs];rfl
   rw[k4]at h4
   have h3:Hid (kK T S op n r=(rc,er tc)):=by
    unfold Hid;rw[<-HR.out];cases gk with
    |zero=>rfl
    |succ gk=>show(if _ then _ else _)=_;rw[if_neg (by rw[hs];decide)]
   clear k4;go_wp2;go_ret;exact⟨tc,by rw[HV.out];rfl,by rw[h3.out],it3,by rw[h3.out];exact h4,ec3⟩
  ·have HN:Hid ((rc.skips T [op]).next=rc.next+1):=lW hs;go_wp2_with fail
   refine(HS.out _ _ h4 k7).mono ?_;rintro e W5 ⟨t5,rfl,k3,it5,h5,e5⟩;have k1:Hid (er t5=(S (rc.skips T [op])).2):=k3;obtain⟨ya,yx,yy,k2,_,hyt⟩:=HO.out (rc.skips T [op]);obtain⟨u5,p5,h6⟩:=aUJ (k1.out.trans k2) Oa;have k9:Hid (bCH t5= .iface u5 (.pointer (some p5))):=h6;rw[h6];clear h6 k2 k3;obtain⟨m,rfl⟩:=Oj gk;have a5:=a3.trans (HG.out _ a3.lt);have k6:=h9.adv a5;have ic5:=it3.ex h4 e5;have e6:=(Ex.refl b W5).alloc (.cells #[.int .i64 op,.iface u (.pointer (some p)),.iface u5 (.pointer (some p5))] 409)
   have fin:∃ (rc:Rd) (tc:Tr),Value.iface 407 (.pointer (some ⟨W5.heap.size,0,none⟩))=bCH tc/\New w.heap.size (W5.alloc (.cells #[.int .i64 op,.iface u (.pointer (some p)),.iface u5 (.pointer (some p5))] 409)) tc/\
    RdW T g cap b rc (W5.alloc (.cells #[.int .i64 op,.iface u (.pointer (some p)),.iface u5 (.pointer (some p5))] 409))/\
    Ex b w (W5.alloc (.cells #[.int .i64 op,.iface u (.pointer (some p)),.iface u5 (.pointer (some p5))] 409))/\Dm T n qr rc/\T.length - rc.next<=m/\
    (∃ a x y,er tc=mk a x y/\7<=a.tag/\a.tag < 9)/\gD T S op m rc (er tc)=kK T S op n r:=by
    refine⟨_,.node W5.heap.size 0 {tag:=8,op:=op} tc t5,rfl,New.node (ic5.ex h5 e6) ((it5.ex h5 e6).mono ec3.size) (fun _=>(ec3.trans e5).size) Od ?_,h5.alloc _,(ec3.trans e5).alloc _,k6,?_,⟨_,_,_,rfl,Od,Od⟩,?_⟩
    ·exact⟨_,Qb W5 _,rfl,by rw[HV.out];rfl,by rw[k9.out];rfl⟩
    ·have:=(HG.out _ a3.lt).ge;have:=HN.out;omega
    ·rw[<-HR.out];show _=(if _ then _ else _);rw[if_pos hs];show gD T S op m _ (.node 0 0 _ (er tc) (er t5))=_;rw[k1.out];rfl
   clear HR HS HG HO HT HV HE HN k1 k9 it2 it3 it5 ic5 k0 h4 h5 e2 e3 e5 e6 a3 a5 k7 k6 h9 ec3 k5 hc itc ec;go_wp2;go_roundg m
   case rel=>exact fin
   case measure=>omega
theorem sU(T:List Tok)(g cap b f n qr:Nat)(S:Pr)(r:Rd)(w:World)(hf:∀ args wx,(callFunc f args).run Tryz.prog wx= .ok (.enter f args) wx)(hS:dI T g cap b f S (Dm T n qr))(hG:aZ T S)(hO:So 0 7 S)(h:RdW T g cap b r w)(hd:Dm T n qr r):
 Calls Tryz.prog 244 #[.pointer (some ⟨b,0,none⟩),fv f b] w (jL T g cap b w (iJ T S r) cB):=by
 have HS:Hid (dI T g cap b f S (Dm T n qr)):=hS;have HG:Hid (aZ T S):=hG;have HO:Hid (So 0 7 S):=hO;clear hS hG hO;unfold fv;have c0:=h.c0;have c1:=h.c1;have t1:=h.tok1;have hltn:(r.next:Int) < (T.length:Int):=by have:=h.lt;omega
 have hfew:(T.length:Int)<=5000:=by have:=h.few;omega
 generalize hP:(dD T r.next).pos=pp at*;have HP:Hid ((dD T r.next).pos=pp):=hP;clear hP;go_enter Tryz.func244,Tryz.ntmps244
 go_wp2;go_quiet (fail)
 go_wp2_with fail
 have hw:=h.drewN nq;have ew:=(Ex.refl b w).drewN nq;clear c0 c1 t1;generalize w.drewN nq=W0 at*;refine(HS.out r W0 hw hd).mono ?_;rintro e W1 ⟨t,rfl,ht,it,h1,e1⟩;have HT:Hid (er t=(S r).2):=ht;clear ht;have a1:=HG.out r h.lt;obtain⟨sa,sx,sy,h8,_,hst⟩:=HO.out r;obtain⟨u,p,hv⟩:=aUJ (HT.out.trans h8) Oa;have HV:Hid (bCH t= .iface u (.pointer (some p))):=hv;rw[hv];clear hv h8;have h2:=h1.alloc (.cells #[.int .i64 23,.int .i64 24,.int .i64 25,.int .i64 26,.int .i64 21,.int .i64 22] 141);have e2:=(Ex.refl b W1).alloc (.cells #[.int .i64 23,.int .i64 24,.int .i64 25,.int .i64 26,.int .i64 21,.int .i64 22] 141);have k1:=bM W1 iR #[.int .i64 23,.int .i64 24,.int .i64 25,.int .i64 26,.int .i64 21,.int .i64 22] rfl;go_wp2_with fail
 refine(fG T g cap b (S r).1 W1.heap.size 6 iR _ h2 k1 Ob Ob).mono ?_;rintro e W3 ⟨rfl,h3,e3⟩;have it3:=(it.ex h1 e2).ex h2 e3;have a3:=a1.trans (aP h1.ends a1.lt (show aQ iR 0=false by decide));have k2:=hd.adv a3;generalize hq:cN T (S r).1 iR=q at*;have HQ:Hid (cN T (S r).1 iR=q):=hq;clear hq;rw[Tok.val_eq];have h4:=(h3.alloc (.cells #[.int .i64 q.kind,.int .i64 q.pos,.string q.text,.int .i64 q.value] 143)).drew;have e4:=((Ex.refl b W3).alloc (.cells #[.int .i64 q.kind,.int .i64 q.pos,.string q.text,.int .i64 q.value] 143)).drew;have n4:(W3.alloc (.cells #[.int .i64 q.kind,.int .i64 q.pos,.string q.text,.int .i64 q.value] 143)).drew.heap[W3.heap.size]?=some (.cells #[.int .i64 q.kind,.int .i64 q.pos,.string q.text,.int .i64 q.value] 143 (0,0)):=Qb W3 _;have k0:W3.heap.size≠b:=by have:=h3.size;omega
 go_wp2_with fail
 have m0:=(dG n4).1
 go_region_held3 (fun w'=>w'.cell? ⟨W3.heap.size,0,none⟩=some (.int .i64 q.kind))
  (first
    |assumption
    |go_keep)
  ((refine eC rfl f #[.pointer (some ⟨b,0,none⟩)] _ (by go_simp) (HS.out _ _ h4 k2) ?_;rintro e W5 ⟨t5,rfl,h7,it5,h5,e5⟩;refine⟨_,rfl,?_⟩;have h9:Hid (er t5=(S ((S r).1.take T iR)).2):=h7;clear h7;have n5:=(e5.block W3.heap.size (Oo n4) k0).trans n4;have p0:=(dG n5).1;obtain⟨ya,yx,yy,h6,_,hyt⟩:=HO.out ((S r).1.take T iR);obtain⟨u5,p5,h0⟩:=aUJ (h9.out.trans h6) Oa;have k3:Hid (bCH t5= .iface u5 (.pointer (some p5))):=h0;rw[h0];clear h0 h6))
 go_wp2;go_ret;have ic5:=(it3.ex h3 e4).ex h4 e5;have e6:=(Ex.refl b W5).alloc (.cells #[.int .i64 q.kind,.int .i64 pp,.iface u (.pointer (some p)),.iface u5 (.pointer (some p5))] 271);refine⟨.node W5.heap.size 0 {tag:=7,op:=q.kind,pos:=pp} t t5,rfl,?_,New.node ((ic5.ex h5 e6).mono ew.size) ((it5.ex h5 e6).mono ((((ew.trans e1).trans e2).trans e3).trans e4).size) (fun _=>(((((ew.trans e1).trans e2).trans e3).trans e4).trans e5).size) Od ?_,h5.alloc _,(((((ew.trans e1).trans e2).trans e3).trans e4).trans e5).alloc _⟩
 ·unfold iJ;rw[HQ.out,HP.out,<-HT.out,<-h9.out];rfl
 ·exact⟨_,Qb W5 _,rfl,rfl,by rw[HV.out];rfl,by rw[k3.out];rfl⟩
def cP:Tr->List Value
 | .nil=>[]
 | .node b o a l r=>if a.tag=19 then[.string a.name,.int .i64 a.npos,.int .i64 a.which]else if a.tag=7 then[cB (.node b o a l r)]else[bCH (.node b o a l r)]
def cT:Tr->List Value
 | .nil=>[]
 | .node _ _ _ e r=>cP e++cT r
def app:Tr->Tr->Tr
 | .nil,y=>y
 | .node b o a e r,y=> .node b o a e (app r y)
def lD(l e:Tr):Tr:=app l (cons e .nil)
def jZ(sz:Nat):Tr->Prop
 | .nil=>True
 | .node _ _ a e r=>a.tag=15/\(∃ b o a l q,e= .node b o a l q/\(a.tag=19↔sz=3))/\(cP e).length=sz/\jZ sz r
theorem vJ(l:Tr):app l .nil=l:=by
 induction l with
 |nil=>rfl
 |node b o a e r _ ih=>simp only[app,ih]
theorem pN(l e r:Tr):app (lD l e) r=app l (cons e r):=by
 induction l with
 |nil=>rfl
 |node b o a x q _ ih=>simp only[lD,app]at ih ⊢;rw[ih]
theorem aNK(l m:Tr):aO (app l m)=aO l+aO m:=by
 induction l with
 |nil=>simp[app,aO]
 |node b o a x q _ ih=>simp only[app,aO,ih];omega
theorem iN(l e:Tr):aO (lD l e)=aO l+1:=by unfold lD;rw[aNK];rfl
theorem aBV(l m:Tr):cT (app l m)=cT l++cT m:=by
 induction l with
 |nil=>rfl
 |node b o a x q _ ih=>simp only[app,cT,ih,List.append_assoc]
theorem jT(l e:Tr):cT (lD l e)=cT l++cP e:=by unfold lD;rw[aBV];simp[cons,mk,cT]
theorem aT3(l m:Tr):er (app l m)=app (er l) (er m):=by
 induction l with
 |nil=>rfl
 |node b o a x q _ ih=>simp only[app,er,ih]
theorem sE(l e:Tr):er (lD l e)=lD (er l) (er e):=by unfold lD;rw[aT3];rfl
theorem aQT(w:World)(l m:Tr):(∀ sz,jZ sz l->IsT w l->IsT w m->IsT w (app l m)):=by
 induction l with
 |nil=>intro sz _ _ h;exact h
 |node b o a x q _ ih=>
  intro sz hs h hm;refine⟨h.1,ih sz hs.2.2.2 h.2.1 hm,?_⟩;unfold Own;rw[hs.1];trivial
theorem aNT{w:World}{l e:Tr}{sz:Nat}(hs:jZ sz l)(hl:IsT w l)(he:IsT w e):IsT w (lD l e):=aQT w l _ sz hs hl ⟨he,trivial,trivial⟩
theorem aJ3{sz:Nat}{l m:Tr}(hl:jZ sz l)(hm:jZ sz m):jZ sz (app l m):=by
 induction l with
 |nil=>exact hm
 |node b o a x q _ ih=>exact⟨hl.1,hl.2.1,hl.2.2.1,ih hl.2.2.2⟩
theorem mY{sz:Nat}{l e:Tr}(hl:jZ sz l)(he:∃ b o a l q,e= .node b o a l q/\(a.tag=19↔sz=3))(hc:(cP e).length=sz):jZ sz (lD l e):=aJ3 hl ⟨rfl,he,hc,trivial⟩
theorem uG(l e:Tr):lD l e≠ .nil:=by cases l<;>intro h<;>cases h
theorem aMP{sz:Nat}{cs:Array Value}:∀ (l:Tr) (o:Nat) (pre:List Value),jZ sz l->pre.length=o*sz->(∀ (j:Nat) (v:Value),(pre++cT l)[j]?=some v->cs[j]?=some v)->jO cs o l:=by
 intro l
 induction l with
 |nil=>intro o pre _ _ _;trivial
 |node b q a e r _ ih=>
  intro o pre hs hp hc;obtain⟨_,⟨eb,eo,ea,el,er',rfl,h4⟩,h3,hr⟩:=hs
  have h0:∀ (j:Nat) (v:Value),(cP (.node eb eo ea el er'))[j]?=some v->cs[o*sz+j]?=some v:=by
   intro j v hv;refine hc (o*sz+j) v ?_;rw[List.getElem?_append_right Oa,hp,show o*sz+j - o*sz=j from by omega];show(cP (.node eb eo ea el er')++cT r)[j]?=some v;rw[List.getElem?_append_left (List.getElem?_eq_some_iff.1 hv).1];exact hv
  refine⟨?_,ih (o+1) (pre++cP (.node eb eo ea el er')) hr (by rw[List.length_append,h3,hp,Nat.succ_mul]) ?_⟩
  ·show(if ea.tag=19 then Nam cs (o*3) ea else if ea.tag=7 then cs[o]?=some (cB (.node eb eo ea el er'))else cs[o]?=some (bCH (.node eb eo ea el er')))
   by_cases h2:ea.tag=19
   ·have h5:=h4.1 h2;subst h5;rw[if_pos h2];have he:cP (.node eb eo ea el er')=[.string ea.name,.int .i64 ea.npos,.int .i64 ea.which]:=if_pos h2;rw[he]at h0;exact⟨h0 0 _ rfl,h0 1 _ rfl,h0 2 _ rfl⟩
   ·rw[if_neg h2]
    have h1:sz=1:=by
     rw[<-h3];show(if ea.tag=19 then[Value.string ea.name,.int .i64 ea.npos,.int .i64 ea.which]else if ea.tag=7 then[cB (.node eb eo ea el er')]else[bCH (.node eb eo ea el er')]).length=1;rw[if_neg h2]
     split<;>rfl
    subst h1
    by_cases h7:ea.tag=7
    ·rw[if_pos h7];have he:cP (.node eb eo ea el er')=[cB (.node eb eo ea el er')]:=(if_neg h2).trans (if_pos h7);rw[he]at h0;simpa using h0 0 _ rfl
    ·rw[if_neg h7];have he:cP (.node eb eo ea el er')=[bCH (.node eb eo ea el er')]:=(if_neg h2).trans (if_neg h7);rw[he]at h0;simpa using h0 0 _ rfl
  ·intro j v hv;refine hc j v ?_;rw[List.append_assoc]at hv;exact hv
theorem gC{b:Nat}{w w':World}{base:Nat}{e:TypeId}{size n:Nat}{v:Value}{xs:List Value}(h:w.ownsRow base e size v n xs){c:Array Value}(hb:w.heap[b]?=some (.cells c 145 (0,0)))(h0:e≠145)(he:Ex b w w'):w'.ownsRow base e size v n xs:=by
 refine⟨h.1,?_⟩;rcases h.2 with h2|⟨g,cap,cur,hv,hg,hh,r⟩
 ·exact .inl h2
 ·refine .inr ⟨g,cap,cur,hv,hg,(he.block g (Oo hh) ?_).trans hh,r⟩;intro e1;rw[e1,hb]at hh;simp only[Option.some.injEq,Obj.cells.injEq]at hh;exact h0 hh.2.1.symm
theorem aG6{w:World}{base sz g cp n:Nat}{l:Tr}(hl:l≠ .nil)(hs:jZ sz l)(hi:IsT w l)(h:w.ownsRow base (bL l) sz (.slice (some ⟨g,0,none⟩) n cp) n (cT l)):IsT w (.node g cp {tag:=20} l .nil):=by
 refine⟨hi,trivial,hl,?_⟩;rcases h.2 with⟨hx,_⟩|⟨g',cap,cur,hv,_,hh,_,_,hsz,h0⟩
 ·cases hx
 ·simp only[Value.slice.injEq,Option.some.injEq,Addr.mk.injEq]at hv;obtain⟨⟨rfl,_,_⟩,_,rfl⟩:=hv;refine⟨cur,hh,aMP l 0 [] hs Od ?_⟩;intro j v hv;rw[List.nil_append,<-h0,List.getElem?_take]at hv
  split at hv
  ·simpa using hv
  ·cases hv
theorem aKB{H:Nat}{l m:Tr}(hl:aUI H l)(hm:aUI H m):aUI H (app l m):=by
 induction l with
 |nil=>exact hm
 |node b o a x q _ ih=>exact⟨hl.1,ih hl.2.1,hl.2.2⟩
theorem aK5{l m:Tr}(hl:xJ l)(hm:xJ m):xJ (app l m):=by
 induction l with
 |nil=>exact hm
 |node b o a x q _ ih=>exact⟨hl.1,ih hl.2.1,hl.2.2⟩
theorem aJN{k:Nat}{l m:Tr}(hl:dV k l)(hm:dV k m):dV k (app l m):=by
 induction l with
 |nil=>exact hm
 |node b o a x q _ ih=>exact⟨hl.1,ih hl.2.1,hl.2.2⟩
theorem fH{k:Nat}{l e:Tr}(hl:dV k l)(he:dV k e):dV k (lD l e):=aJN hl ⟨he,trivial,fun p=>absurd rfl p.1⟩
theorem New.cons{H:Nat}{w:World}{e l:Tr}(he:New H w e)(hl:New H w l):New H w (cons e l):=New.node he hl (fun p=>absurd rfl p.1) Od trivial
theorem New.snoc{H sz:Nat}{w:World}{l e:Tr}(hs:jZ sz l)(hl:New H w l)(he:New H w e):New H w (lD l e):=
 ⟨aNT hs hl.is he.is,aKB hl.fresh (he.cons (New.nil H w)).fresh,aK5 hl.known (he.cons (New.nil H w)).known⟩
theorem New.listed{H sz g cp n:Nat}{w:World}{l:Tr}(hl:l≠ .nil)(hs:jZ sz l)(hi:New H w l)(h:w.ownsRow H (bL l) sz (.slice (some ⟨g,0,none⟩) n cp) n (cT l)):New H w (.node g cp {tag:=20} l .nil):=by
 have h1:=aG6 hl hs hi.is h;exact⟨h1,⟨hi.fresh,trivial,fun _=>(h.lt g rfl).1⟩,⟨hi.known,trivial,Od⟩⟩
theorem lZ{l e:Tr}(h:l≠ .nil):bL (lD l e)=bL l:=by
 cases l with
 |nil=>exact absurd rfl h
 |node b o a x r=>rw[lD,app];cases x<;>rfl
def uA(T:List Tok)(g cap b f:Nat)(S:Pr)(D:Rd->Prop)(val:Tr->Value):Prop:=
 ∀ r w,RdW T g cap b r w->D r->Calls Tryz.prog f #[.pointer (some ⟨b,0,none⟩)] w (jL T g cap b w (S r) val)
theorem qX{w:World}{base:Nat}{e:TypeId}{sz:Nat}{cs:Array Value}(hb:base<=w.heap.size)(hs:cs.size=sz):(w.alloc (.cells cs e)).ownsRow base e sz (.slice (some ⟨w.heap.size,0,none⟩) 1 1) 1 cs.toList:=
 ⟨by simp[hs],.inr ⟨w.heap.size,1,cs,rfl,hb,Qb w _,Qc _,by unfold maxLen;omega,Oa,by rw[Nat.one_mul,List.take_of_length_le (by simp[hs])]⟩⟩
theorem aH4{t:Tr}{a:Nd}{x y:Tr}(h:er t=mk a x y):∃ p,cB t= .pointer (some p):=by
 cases t with
 |nil=>cases h
 |node b o a' l r=>exact⟨_,rfl⟩
theorem oI{t:Tr}{a:Nd}{x y:Tr}(h:er t=mk a x y):∃ b o l r,t= .node b o a l r/\er l=x/\er r=y:=by
 cases t with
 |nil=>cases h
 |node b o a' l r=>
  simp only[er,mk,BT.node.injEq]at h;obtain⟨_,_,rfl,h1,h2⟩:=h;exact⟨b,o,l,r,rfl,h1,h2⟩
theorem vU{w:World}{base n sz:Nat}{e:TypeId}{v:Value}{xs:List Value}(h:w.ownsRow base e sz v n xs)(hn:0 < n):∃ g cp,v= .slice (some ⟨g,0,none⟩) n cp:=by
 obtain⟨g,cp,hv,_⟩:=h.form hn;exact⟨g,cp,hv⟩
theorem uO{l:Tr}(h:l≠ .nil):0 < aO l:=by
 cases l with
 |nil=>exact absurd rfl h
 |node b o a x r=>simp[aO]
theorem Tryz.infoEE:(Tryz.prog.info? 269).map (fun i=>(i.zero,i.size,i.bytes))=some (some .nilIface,1,16):=by kernel_rfl
theorem aRJ{t:Tr}{a:Nd}{x y:Tr}(h:er t=mk a x y)(h1:0<=a.tag)(h2:a.tag < 7):cP t=[bCH t]/\bL (cons t .nil)=269/\∃ b o a l q,t= .node b o a l q/\(a.tag=19↔1=3):=by
 obtain⟨b,o,l,r,rfl,_,_⟩:=oI h;refine⟨?_,?_,b,o,a,l,r,rfl,⟨fun h=>Oa,fun h=>Oa⟩⟩
 ·show(if a.tag=19 then[Value.string a.name,.int .i64 a.npos,.int .i64 a.which]else if a.tag=7 then[cB (.node b o a l r)]else[bCH (.node b o a l r)])=_;rw[Oh,Oh]
 ·show(if a.tag=19 then _ else if a.tag=7 then _ else if a.tag < 7 then _ else if a.tag < 15 then _ else _)=_;rw[Oh,Oh,if_pos Oa]
theorem aK1(T:List Tok)(g cap b f n qr:Nat)(S:Pr)(r:Rd)(w:World)(hf:∀ args wx,(callFunc f args).run Tryz.prog wx= .ok (.enter f args) wx)(hS:uA T g cap b f S (Dm T n qr) bCH)(hG:aZ T S)(hO:So 0 7 S)(h:RdW T g cap b r w)(hd:Dm T n qr r):
 Calls Tryz.prog 366 #[.pointer (some ⟨b,0,none⟩),fv f b] w (jL T g cap b w (fX T S n r) bCH):=by
 have HS:Hid (uA T g cap b f S (Dm T n qr) bCH):=hS;have HG:Hid (aZ T S):=hG;have HO:Hid (So 0 7 S):=hO;clear hS hG hO;obtain⟨i0,j8,z9,z8,z7⟩:=info_parts Tryz.infoEE;unfold fv;go_enter Tryz.func366,Tryz.ntmps366
 go_wp2_with fail
 refine(HS.out r w h hd).mono ?_;rintro e w1 ⟨t,rfl,ht,it,h1,e1⟩;have HT:Hid (er t=(S r).2):=ht;clear ht;have a1:=HG.out r h.lt;have z4:=hd.adv a1;have hfew:=h.few;obtain⟨sa,sx,sy,y9,j4,j3⟩:=HO.out r;obtain⟨z1,k0,j6⟩:=aRJ (HT.out.trans y9) j4 j3;obtain⟨u,p,hv⟩:=aUJ (HT.out.trans y9) Oa;have HV:Hid (bCH t= .iface u (.pointer (some p))):=hv;have HE:Hid (cP t=[bCH t]):=z1;have z6:Hid (bL (cons t .nil)=269):=k0;rw[hv];clear hv z1 k0;have own1:(w1.alloc (.cells #[.iface u (.pointer (some p))] 269)).ownsRow w.heap.size 269 1 (.slice (some ⟨w1.heap.size,0,none⟩) 1 1) 1 [.iface u (.pointer (some p))]:=qX e1.size rfl;go_wp2_with fail
 go_loopg [5] n (fun m v wr=>∃ (rc:Rd) (acc:Tr),wr.ownsRow w.heap.size 269 1 v (aO acc) (cT acc)/\acc≠ .nil/\bL acc=269/\jZ 1 acc/\New w.heap.size wr acc/\(∀ k,v.ownBlock=some k->dV k acc)/\RdW T g cap b rc wr/\Ex b w wr/\Dm T n qr rc/\T.length - rc.next<=m/\aO acc<=rc.next+1/\
  app (er acc) (bEG T S m rc).2=cons (S r).2 (bEG T S n (S r).1).2/\(bEG T S m rc).1=(bEG T S n (S r).1).1)
 case atStart=>
  refine⟨_,cons t .nil,?_,?_,z6.out,⟨rfl,j6,by rw[HE.out];rfl,trivial⟩,(it.ex h1 ((Ex.refl b w1).alloc _)).cons (New.nil _ _),?_,h1.alloc _,e1.alloc _,z4,?_,?_,?_,rfl⟩
  ·show World.ownsRow _ _ _ _ _ 1 (cP t++[]);rw[HE.out,HV.out];exact own1
  ·intro e;cases e
  ·intro k hk;simp only[Value.ownBlock,Option.some.injEq]at hk;subst hk;exact⟨it.out Ol,trivial,fun p=>absurd rfl p.1⟩
  ·have:=z4.1;omega
  ·show 0+1<=_;omega
  ·show cons (er t) _=_;rw[HT.out];rfl
 case round=>
  obtain⟨rc,acc,own,y0,k0,k5,iac,z0,hc,ec,y4,hm,hlen,h9,h0⟩:=hrel;have HR:Hid (app (er acc) (bEG T S gk rc).2=cons (S r).2 (bEG T S n (S r).1).2):=h9;have k7:Hid ((bEG T S gk rc).1=(bEG T S n (S r).1).1):=h0;have h8:Hid (bL acc=269):=k0;clear h9 h0 k0 own1;obtain⟨gg,cp,j2⟩:=vU own (uO y0);subst j2;have y5:=hc.alloc (.cells #[.int .i64 18] 141);have e2:=(Ex.refl b wr).alloc (.cells #[.int .i64 18] 141);have ia2:=iac.ex hc e2;have own2:=own.alloc (.cells #[.int .i64 18] 141);have j7:=bM wr [18] #[.int .i64 18] rfl;go_wp2_with fail
  refine(lL T g cap b rc wr.heap.size 1 [18] _ y5 j7 Ob Ob).mono ?_;rintro e W3 ⟨rfl,k3,e3⟩;have ia3:=ia2.ex y5 e3;have own3:=gC own2 y5.blk Ob e3;have ec3:=(ec.trans e2).trans e3;have y2:=hc.lt;have a3:=dU hc.ends y2 (show aQ [18] 0=false by decide);have z3:=y4.adv a3;cases hs:aN T rc [18]
  ·have y8:rc.skips T [18]=rc:=by unfold Rd.skips;rw[hs];rfl
   rw[y8]at k3
   have k1:bEG T S gk rc=(rc,.nil):=by
    cases gk with
    |zero=>rfl
    |succ gk=>show(if _ then _ else _)=_;rw[if_neg (by rw[hs];decide)]
   have h2:=HR.out;have h3:=k7.out;rw[k1]at h2 h3;rw[vJ]at h2
   have fin:jL T g cap b w (fX T S n r) bCH (.returned (.slice (some ⟨gg,0,none⟩) (aO acc) cp)) W3:=by
    refine⟨.node gg cp {tag:=20} acc .nil,rfl,?_,New.listed y0 k5 ia3 (by rw[h8.out];exact own3),?_,ec3⟩
    ·show BT.node 0 0 _ (er acc) .nil=gE (cons (S r).2 (bEG T S n (S r).1).2);rw[h2];rfl
    ·show RdW T g cap b (bEG T S n (S r).1).1 W3;rw[<-h3];exact k3
   clear h2 h3 k1 y8 HR k7;go_wp2;go_ret;exact fin
  ·have HN:Hid ((rc.skips T [18]).next=rc.next+1):=lW hs;go_wp2_with fail
   refine(HS.out _ _ k3 z3).mono ?_;rintro e W5 ⟨t5,rfl,y7,it5,h5,e5⟩;have k6:Hid (er t5=(S (rc.skips T [18])).2):=y7;obtain⟨ya,yx,yy,k8,j1,j0⟩:=HO.out (rc.skips T [18]);obtain⟨k2,_,y1⟩:=aRJ (k6.out.trans k8) j1 j0;obtain⟨u5,p5,k9⟩:=aUJ (k6.out.trans k8) Oa;have z5:Hid (bCH t5= .iface u5 (.pointer (some p5))):=k9;have y6:Hid (cP t5=[bCH t5]):=k2;rw[k9];clear k9 k8 y7 k2;obtain⟨m,rfl⟩:=Oj gk;have a5:=a3.trans (HG.out _ a3.lt);have z2:=y4.adv a5;have own5:=gC own3 k3.blk Ob e5;have ia5:=ia3.ex k3 e5;have ec5:=ec3.trans e5;have hw5:=ec5.size;have hnx:=HN.out;have hge:=(HG.out _ a3.lt).ge;have hltS:=(HG.out _ a3.lt).lt;have hl4:aO acc<=5000:=Oa
   go_wp2_with (at_builtin;refine wpList_append_lies _ rfl _ _ 448 rfl w.heap.size 269 i0 _ 1 16 Tryz.underlying448 j8 z9 z8 z7 rfl Oa (.slice (some ⟨gg,0,none⟩) (aO acc) cp) (aO acc) (cT acc) rfl (own5.alloc _) ⟨W5.heap.size,0,none⟩ 1 1 [.iface u5 (.pointer (some p5))] rfl rfl (World.news_of_block (cs:=#[.iface u5 (.pointer (some p5))]) (t:=269) (fr:=(0,0)) (Qb W5 _)) (by simp[Value.oneCell']) Oa (by unfold maxLen;omega) Oa (by simp;omega) (W5.heap.size+1) Od ?_;intro g6 cp6 W6 own6 grow6 k4 hlt6)
   have e6:Ex b W5 (W5.alloc (.cells #[.iface u5 (.pointer (some p5))] 269)):=(Ex.refl b W5).alloc _;have h6:=h5.alloc (.cells #[.iface u5 (.pointer (some p5))] 269);have ia6:=ia5.ex h5 e6;have ib6:=it5.ex h5 e6
   have rne:∀ k,Value.ownBlock (.slice (some ⟨gg,0,none⟩) (aO acc) cp)=some k->k≠b/\k≠g:=by
    intro k hk;rcases(own5.alloc (.cells #[.iface u5 (.pointer (some p5))] 269)).2 with⟨hx,_⟩|⟨g',cap',cur,hv,_,hh,_⟩
    ·cases hx
    ·simp only[Value.slice.injEq,Option.some.injEq,Addr.mk.injEq]at hv;obtain⟨⟨rfl,_,_⟩,_,_⟩:=hv;simp only[Value.ownBlock,Option.some.injEq]at hk;subst hk;refine⟨fun e1=>?_,fun e1=>?_⟩
     ·rw[e1,h6.blk]at hh;simp at hh
     ·obtain⟨cur2,j9,_⟩:=h6.row;rw[e1,j9]at hh;simp at hh
   have h7:RdW T g cap b (S (rc.skips T [18])).1 W6:=h6.move (grow6.block b h6.size (fun e1=>(rne b e1.symm).1 rfl)) (grow6.block g h6.gsize (fun e1=>(rne g e1.symm).2 rfl));have e7:Ex b w W6:=Ex.grown (ec5.alloc _) grow6 (fun k hk=>(own.lt k hk).1);have nig:dV gg acc:=z0 gg rfl;have y3:gg < W3.heap.size:=(own3.lt gg rfl).2;have h4:∀ i,i < (W5.alloc (.cells #[.iface u5 (.pointer (some p5))] 269)).heap.size->i≠gg->W6.heap[i]?=(W5.alloc (.cells #[.iface u5 (.pointer (some p5))] 269)).heap[i]?:=fun i hi j5=>grow6.block i hi (fun e1=>j5 (Oq e1));have ia7:New w.heap.size W6 acc:=ia6.but h4 nig;have nib:dV gg t5:=ib6.fresh.notIn y3;have ib7:New w.heap.size W6 t5:=(ib6.but h4 nib).mono ec3.size
   have nis:dV g6 (lD acc t5):=by
    rcases k4 with hx|hx
    ·simp only[Value.ownBlock,Option.some.injEq]at hx;subst hx;exact fH nig nib
    ·subst hx;have hs5:(W5.alloc (.cells #[.iface u5 (.pointer (some p5))] 269)).heap.size=W5.heap.size+1:=Od
     exact fH (ia6.out Oa) (ib6.out Oa)
   have fin:∃ (rc:Rd) (acc':Tr),W6.ownsRow w.heap.size 269 1 (.slice (some ⟨g6,0,none⟩) (aO acc+1) cp6) (aO acc') (cT acc')/\acc'≠ .nil/\bL acc'=269/\jZ 1 acc'/\New w.heap.size W6 acc'/\
    (∀ k,(Value.slice (some ⟨g6,0,none⟩) (aO acc+1) cp6).ownBlock=some k->dV k acc')/\RdW T g cap b rc W6/\Ex b w W6/\Dm T n qr rc/\T.length - rc.next<=m/\aO acc'<=rc.next+1/\
    app (er acc') (bEG T S m rc).2=cons (S r).2 (bEG T S n (S r).1).2/\(bEG T S m rc).1=(bEG T S n (S r).1).1:=by
    refine⟨_,lD acc t5,?_,uG _ _,?_,?_,New.snoc k5 ia7 ib7,?_,h7,e7,z2,?_,?_,?_,?_⟩
    ·rw[iN,jT,y6.out,z5.out];exact own6
    ·rw[lZ y0];exact h8.out
    ·exact mY k5 y1 (by rw[y6.out];rfl)
    ·intro k hk;simp only[Value.ownBlock,Option.some.injEq]at hk;subst hk;exact nis
    ·omega
    ·rw[iN];omega
    ·have h2:=HR.out
     have h3:bEG T S (m+1) rc=((bEG T S m (S (rc.skips T [18])).1).1,cons (S (rc.skips T [18])).2 (bEG T S m (S (rc.skips T [18])).1).2):=by
      show(if _ then _ else _)=_;rw[if_pos hs]
     rw[h3]at h2;rw[sE,pN,k6.out];exact h2
    ·have h2:=k7.out
     have h3:bEG T S (m+1) rc=((bEG T S m (S (rc.skips T [18])).1).1,cons (S (rc.skips T [18])).2 (bEG T S m (S (rc.skips T [18])).1).2):=by
      show(if _ then _ else _)=_;rw[if_pos hs]
     rw[h3]at h2;exact h2
   clear HR k7 HS HG HO HT HV HE HN k6 z5 y6 z6 h8 k4 ia7 ib7 nis nib nig ia6 ib6 ia5 ia3 ia2 it5 own6 own5 own3 own2 own h7 e7 h6 e6 k5 iac z0 hc ec y4 rne h4 grow6 z2 z3 a5 a3;go_wp2;go_roundg m
   case rel=>exact fin
   case measure=>omega
theorem Tryz.infoEC:(Tryz.prog.info? 253).map (fun i=>(i.zero,i.size,i.bytes))=some (some (.pointer none),1,8):=by kernel_rfl
theorem aRK{t:Tr}{a:Nd}{x y:Tr}(h:er t=mk a x y)(h1:7<=a.tag)(h2:a.tag < 8):cP t=[cB t]/\bL (cons t .nil)=253/\∃ b o a l q,t= .node b o a l q/\(a.tag=19↔1=3):=by
 obtain⟨b,o,l,r,rfl,_,_⟩:=oI h;refine⟨?_,?_,b,o,a,l,r,rfl,⟨fun h=>Oa,fun h=>Oa⟩⟩
 ·show(if a.tag=19 then[Value.string a.name,.int .i64 a.npos,.int .i64 a.which]else if a.tag=7 then[cB (.node b o a l r)]else[bCH (.node b o a l r)])=_;rw[Oh,if_pos Oa]
 ·show(if a.tag=19 then _ else if a.tag=7 then _ else if a.tag < 7 then _ else if a.tag < 15 then _ else _)=_;rw[Oh,if_pos Oa]
theorem aB0(T:List Tok)(g cap b f n qr:Nat)(S:Pr)(r:Rd)(w:World)(hf:∀ args wx,(callFunc f args).run Tryz.prog wx= .ok (.enter f args) wx)(hS:uA T g cap b f S (Dm T n qr) cB)(hG:aZ T S)(hO:So 7 8 S)(h:RdW T g cap b r w)(hd:Dm T n qr r):
 Calls Tryz.prog 190 #[.pointer (some ⟨b,0,none⟩),fv f b] w (jL T g cap b w (fX T S n r) bCH):=by
 have HS:Hid (uA T g cap b f S (Dm T n qr) cB):=hS;have HG:Hid (aZ T S):=hG;have HO:Hid (So 7 8 S):=hO;clear hS hG hO;obtain⟨i0,j8,z9,z8,z7⟩:=info_parts Tryz.infoEC;unfold fv;go_enter Tryz.func190,Tryz.ntmps190
 go_wp2_with fail
 refine(HS.out r w h hd).mono ?_;rintro e w1 ⟨t,rfl,ht,it,h1,e1⟩;have HT:Hid (er t=(S r).2):=ht;clear ht;have a1:=HG.out r h.lt;have z4:=hd.adv a1;have hfew:=h.few;obtain⟨sa,sx,sy,y9,j4,j3⟩:=HO.out r;obtain⟨z1,k0,j6⟩:=aRK (HT.out.trans y9) j4 j3;obtain⟨p,hv⟩:=aH4 (HT.out.trans y9);have HV:Hid (cB t= .pointer (some p)):=hv;have HE:Hid (cP t=[cB t]):=z1;have z6:Hid (bL (cons t .nil)=253):=k0;rw[hv];clear hv z1 k0;have own1:(w1.alloc (.cells #[.pointer (some p)] 253)).ownsRow w.heap.size 253 1 (.slice (some ⟨w1.heap.size,0,none⟩) 1 1) 1 [.pointer (some p)]:=qX e1.size rfl;go_wp2_with fail
 go_loopg [5] n (fun m v wr=>∃ (rc:Rd) (acc:Tr),wr.ownsRow w.heap.size 253 1 v (aO acc) (cT acc)/\acc≠ .nil/\bL acc=253/\jZ 1 acc/\New w.heap.size wr acc/\(∀ k,v.ownBlock=some k->dV k acc)/\RdW T g cap b rc wr/\Ex b w wr/\Dm T n qr rc/\T.length - rc.next<=m/\aO acc<=rc.next+1/\
  app (er acc) (bEG T S m rc).2=cons (S r).2 (bEG T S n (S r).1).2/\(bEG T S m rc).1=(bEG T S n (S r).1).1)
 case atStart=>
  refine⟨_,cons t .nil,?_,?_,z6.out,⟨rfl,j6,by rw[HE.out];rfl,trivial⟩,(it.ex h1 ((Ex.refl b w1).alloc _)).cons (New.nil _ _),?_,h1.alloc _,e1.alloc _,z4,?_,?_,?_,rfl⟩
  ·show World.ownsRow _ _ _ _ _ 1 (cP t++[]);rw[HE.out,HV.out];exact own1
  ·intro e;cases e
  ·intro k hk;simp only[Value.ownBlock,Option.some.injEq]at hk;subst hk;exact⟨it.out Ol,trivial,fun p=>absurd rfl p.1⟩
  ·have:=z4.1;omega
  ·show 0+1<=_;omega
  ·show cons (er t) _=_;rw[HT.out];rfl
 case round=>
  obtain⟨rc,acc,own,y0,k0,k5,iac,z0,hc,ec,y4,hm,hlen,h9,h0⟩:=hrel;have HR:Hid (app (er acc) (bEG T S gk rc).2=cons (S r).2 (bEG T S n (S r).1).2):=h9;have k7:Hid ((bEG T S gk rc).1=(bEG T S n (S r).1).1):=h0;have h8:Hid (bL acc=253):=k0;clear h9 h0 k0 own1;obtain⟨gg,cp,j2⟩:=vU own (uO y0);subst j2;have y5:=hc.alloc (.cells #[.int .i64 18] 141);have e2:=(Ex.refl b wr).alloc (.cells #[.int .i64 18] 141);have ia2:=iac.ex hc e2;have own2:=own.alloc (.cells #[.int .i64 18] 141);have j7:=bM wr [18] #[.int .i64 18] rfl;go_wp2_with fail
  refine(lL T g cap b rc wr.heap.size 1 [18] _ y5 j7 Ob Ob).mono ?_;rintro e W3 ⟨rfl,k3,e3⟩;have ia3:=ia2.ex y5 e3;have own3:=gC own2 y5.blk Ob e3;have ec3:=(ec.trans e2).trans e3;have y2:=hc.lt;have a3:=dU hc.ends y2 (show aQ [18] 0=false by decide);have z3:=y4.adv a3;cases hs:aN T rc [18]
  ·have y8:rc.skips T [18]=rc:=by unfold Rd.skips;rw[hs];rfl
   rw[y8]at k3
   have k1:bEG T S gk rc=(rc,.nil):=by
    cases gk with
    |zero=>rfl
    |succ gk=>show(if _ then _ else _)=_;rw[if_neg (by rw[hs];decide)]
   have h2:=HR.out;have h3:=k7.out;rw[k1]at h2 h3;rw[vJ]at h2
   have fin:jL T g cap b w (fX T S n r) bCH (.returned (.slice (some ⟨gg,0,none⟩) (aO acc) cp)) W3:=by
    refine⟨.node gg cp {tag:=20} acc .nil,rfl,?_,New.listed y0 k5 ia3 (by rw[h8.out];exact own3),?_,ec3⟩
    ·show BT.node 0 0 _ (er acc) .nil=gE (cons (S r).2 (bEG T S n (S r).1).2);rw[h2];rfl
    ·show RdW T g cap b (bEG T S n (S r).1).1 W3;rw[<-h3];exact k3
   clear h2 h3 k1 y8 HR k7;go_wp2;go_ret;exact fin
  ·have HN:Hid ((rc.skips T [18]).next=rc.next+1):=lW hs;go_wp2_with fail
   refine(HS.out _ _ k3 z3).mono ?_;rintro e W5 ⟨t5,rfl,y7,it5,h5,e5⟩;have k6:Hid (er t5=(S (rc.skips T [18])).2):=y7;obtain⟨ya,yx,yy,k8,j1,j0⟩:=HO.out (rc.skips T [18]);obtain⟨k2,_,y1⟩:=aRK (k6.out.trans k8) j1 j0;obtain⟨p5,k9⟩:=aH4 (k6.out.trans k8);have z5:Hid (cB t5= .pointer (some p5)):=k9;have y6:Hid (cP t5=[cB t5]):=k2;rw[k9];clear k9 k8 y7 k2;obtain⟨m,rfl⟩:=Oj gk;have a5:=a3.trans (HG.out _ a3.lt);have z2:=y4.adv a5;have own5:=gC own3 k3.blk Ob e5;have ia5:=ia3.ex k3 e5;have ec5:=ec3.trans e5;have hw5:=ec5.size;have hnx:=HN.out;have hge:=(HG.out _ a3.lt).ge;have hltS:=(HG.out _ a3.lt).lt;have hl4:aO acc<=5000:=Oa
   go_wp2_with (at_builtin;refine wpList_append_lies _ rfl _ _ 102 rfl w.heap.size 253 i0 _ 1 8 Tryz.underlying102 j8 z9 z8 z7 rfl Oa (.slice (some ⟨gg,0,none⟩) (aO acc) cp) (aO acc) (cT acc) rfl (own5.alloc _) ⟨W5.heap.size,0,none⟩ 1 1 [.pointer (some p5)] rfl rfl (World.news_of_block (cs:=#[.pointer (some p5)]) (t:=253) (fr:=(0,0)) (Qb W5 _)) (by simp[Value.oneCell']) Oa (by unfold maxLen;omega) Oa (by simp;omega) (W5.heap.size+1) Od ?_;intro g6 cp6 W6 own6 grow6 k4 hlt6)
   have e6:Ex b W5 (W5.alloc (.cells #[.pointer (some p5)] 253)):=(Ex.refl b W5).alloc _;have h6:=h5.alloc (.cells #[.pointer (some p5)] 253);have ia6:=ia5.ex h5 e6;have ib6:=it5.ex h5 e6
   have rne:∀ k,Value.ownBlock (.slice (some ⟨gg,0,none⟩) (aO acc) cp)=some k->k≠b/\k≠g:=by
    intro k hk;rcases(own5.alloc (.cells #[.pointer (some p5)] 253)).2 with⟨hx,_⟩|⟨g',cap',cur,hv,_,hh,_⟩
    ·cases hx
    ·simp only[Value.slice.injEq,Option.some.injEq,Addr.mk.injEq]at hv;obtain⟨⟨rfl,_,_⟩,_,_⟩:=hv;simp only[Value.ownBlock,Option.some.injEq]at hk;subst hk;refine⟨fun e1=>?_,fun e1=>?_⟩
     ·rw[e1,h6.blk]at hh;simp at hh
     ·obtain⟨cur2,j9,_⟩:=h6.row;rw[e1,j9]at hh;simp at hh
   have h7:RdW T g cap b (S (rc.skips T [18])).1 W6:=h6.move (grow6.block b h6.size (fun e1=>(rne b e1.symm).1 rfl)) (grow6.block g h6.gsize (fun e1=>(rne g e1.symm).2 rfl));have e7:Ex b w W6:=Ex.grown (ec5.alloc _) grow6 (fun k hk=>(own.lt k hk).1);have nig:dV gg acc:=z0 gg rfl;have y3:gg < W3.heap.size:=(own3.lt gg rfl).2;have h4:∀ i,i < (W5.alloc (.cells #[.pointer (some p5)] 253)).heap.size->i≠gg->W6.heap[i]?=(W5.alloc (.cells #[.pointer (some p5)] 253)).heap[i]?:=fun i hi j5=>grow6.block i hi (fun e1=>j5 (Oq e1));have ia7:New w.heap.size W6 acc:=ia6.but h4 nig;have nib:dV gg t5:=ib6.fresh.notIn y3;have ib7:New w.heap.size W6 t5:=(ib6.but h4 nib).mono ec3.size
   have nis:dV g6 (lD acc t5):=by
    rcases k4 with hx|hx
    ·simp only[Value.ownBlock,Option.some.injEq]at hx;subst hx;exact fH nig nib
    ·subst hx;have hs5:(W5.alloc (.cells #[.pointer (some p5)] 253)).heap.size=W5.heap.size+1:=Od
     exact fH (ia6.out Oa) (ib6.out Oa)
   have fin:∃ (rc:Rd) (acc':Tr),W6.ownsRow w.heap.size 253 1 (.slice (some ⟨g6,0,none⟩) (aO acc+1) cp6) (aO acc') (cT acc')/\acc'≠ .nil/\bL acc'=253/\jZ 1 acc'/\New w.heap.size W6 acc'/\
    (∀ k,(Value.slice (some ⟨g6,0,none⟩) (aO acc+1) cp6).ownBlock=some k->dV k acc')/\RdW T g cap b rc W6/\Ex b w W6/\Dm T n qr rc/\T.length - rc.next<=m/\aO acc'<=rc.next+1/\
    app (er acc') (bEG T S m rc).2=cons (S r).2 (bEG T S n (S r).1).2/\(bEG T S m rc).1=(bEG T S n (S r).1).1:=by
    refine⟨_,lD acc t5,?_,uG _ _,?_,?_,New.snoc k5 ia7 ib7,?_,h7,e7,z2,?_,?_,?_,?_⟩
    ·rw[iN,jT,y6.out,z5.out];exact own6
    ·rw[lZ y0];exact h8.out
    ·exact mY k5 y1 (by rw[y6.out];rfl)
    ·intro k hk;simp only[Value.ownBlock,Option.some.injEq]at hk;subst hk;exact nis
    ·omega
    ·rw[iN];omega
    ·have h2:=HR.out
     have h3:bEG T S (m+1) rc=((bEG T S m (S (rc.skips T [18])).1).1,cons (S (rc.skips T [18])).2 (bEG T S m (S (rc.skips T [18])).1).2):=by
      show(if _ then _ else _)=_;rw[if_pos hs]
     rw[h3]at h2;rw[sE,pN,k6.out];exact h2
    ·have h2:=k7.out
     have h3:bEG T S (m+1) rc=((bEG T S m (S (rc.skips T [18])).1).1,cons (S (rc.skips T [18])).2 (bEG T S m (S (rc.skips T [18])).1).2):=by
      show(if _ then _ else _)=_;rw[if_pos hs]
     rw[h3]at h2;exact h2
   clear HR k7 HS HG HO HT HV HE HN k6 z5 y6 z6 h8 k4 ia7 ib7 nis nib nig ia6 ib6 ia5 ia3 ia2 it5 own6 own5 own3 own2 own h7 e7 h6 e6 k5 iac z0 hc ec y4 rne h4 grow6 z2 z3 a5 a3;go_wp2;go_roundg m
   case rel=>exact fin
   case measure=>omega
theorem Dm.nest{T:List Tok}{n q:Nat}{r:Rd}(h:Dm T n q r):0<=r.nest/\r.nest<=1000000:=by obtain⟨_,h2,h3⟩:=h;omega
theorem aB2(T:List Tok)(g cap b n:Nat)(E:Pr)(r:Rd)(w:World)(hE:dI T g cap b 335 E (Dm T n 2))(hG:aZ T E)(hO:So 0 7 E)(h:RdW T g cap b r w)(hn:0<=r.nest/\r.nest<=1000000)(hd:Dm T n 2 (r.opened T [16])):
 Calls Tryz.prog 336 #[.pointer (some ⟨b,0,none⟩)] w (jL T g cap b w (gR T E r) bCH):=by
 have HE:Hid _:=hE;have HG:Hid _:=hG;have HO:Hid _:=hO;have h1:=h.alloc (.cells #[.int .i64 16] 141);have e1:=(Ex.refl b w).alloc (.cells #[.int .i64 16] 141);have k1:=bM w [16] #[.int .i64 16] rfl;obtain⟨o1,o2,o3⟩:=dF h.ends h.lt (show aQ [16] 0=false by decide);go_enter Tryz.func336,Tryz.ntmps336
 go_wp2_with fail
 refine(uL T g cap b r w.heap.size 1 [16] _ h1 k1 Ob Ob hn).mono ?_;rintro e W2 ⟨rfl,h2,e2⟩;go_wp2_with fail
 refine(HE.out _ _ h2 hd).mono ?_;rintro e W3 ⟨t,rfl,ht,it,h3,e3⟩;have HT:Hid _:=ht;have a3:=HG.out _ o2;have h0:0<=(E (r.opened T [16])).1.nest/\(E (r.opened T [16])).1.nest<=1000000:=by rw[a3.nest];exact hd.nest
 go_wp2_with fail
 refine(nC T g cap b _ 17 W3 h3 Ob h0).mono ?_;rintro e W4 ⟨rfl,h4,e4⟩;go_wp2;go_ret;exact⟨t,rfl,HT.out,(it.mono (e1.trans e2).size).ex h3 e4,h4,((e1.trans e2).trans e3).trans e4⟩
theorem bCZ(T:List Tok)(g cap b n:Nat)(E:Pr)(r:Rd)(w:World)(hE:dI T g cap b 335 E (Dm T n 2))(h:RdW T g cap b r w)(hd:Dm T n 2 r):
 Calls Tryz.prog 300 #[.pointer (some ⟨b,0,none⟩)] w (jL T g cap b w (fM T E r) bCH):=by
 have HE:Hid _:=hE;go_enter Tryz.func300,Tryz.ntmps300
 go_wp2_with fail
 refine(HE.out _ _ h hd).mono ?_;rintro e W3 ⟨t,rfl,ht,it,h3,e3⟩;have HT:Hid _:=ht;have h4:=h3.alloc (.cells #[.int .i64 19] 141);have e4:=(Ex.refl b W3).alloc (.cells #[.int .i64 19] 141);have k4:=bM W3 [19] #[.int .i64 19] rfl;go_wp2_with fail
 refine(fG T g cap b _ W3.heap.size 1 [19] _ h4 k4 Ob Ob).mono ?_;rintro e W5 ⟨rfl,h5,e5⟩;go_wp2;go_ret;exact⟨t,rfl,HT.out,(it.ex h3 e4).ex h4 e5,h5,(e3.trans e4).trans e5⟩
theorem xG:∀ args wx,(callFunc 335 args).run Tryz.prog wx= .ok (.enter 335 args) wx:=by
 intro args wx;go_simp
theorem aOZ(T:List Tok)(g cap b n:Nat)(E:Pr)(r:Rd)(w:World)(hE:dI T g cap b 335 E (Dm T n 2))(hG:aZ T E)(hO:So 0 7 E)(h:RdW T g cap b r w)(hn:0<=r.nest/\r.nest<=1000000)(hd:Dm T n 2 (r.opened T [12])):
 Calls Tryz.prog 365 #[.pointer (some ⟨b,0,none⟩)] w (jL T g cap b w (lB T E n r) bCH):=by
 have HE:Hid _:=hE;have HG:Hid _:=hG;have HO:Hid _:=hO;have h1:=h.alloc (.cells #[.int .i64 12] 141);have e1:=(Ex.refl b w).alloc (.cells #[.int .i64 12] 141);have k1:=bM w [12] #[.int .i64 12] rfl;obtain⟨o1,o2,o3⟩:=dF h.ends h.lt (show aQ [12] 0=false by decide);go_enter Tryz.func365,Tryz.ntmps365
 go_wp2_with fail
 refine(uL T g cap b r w.heap.size 1 [12] _ h1 k1 Ob Ob hn).mono ?_;rintro e W2 ⟨rfl,h2,e2⟩;have h3:=h2.alloc (.cells #[.int .i64 13] 141);have e3:=(Ex.refl b W2).alloc (.cells #[.int .i64 13] 141);have k3:=bM W2 [13] #[.int .i64 13] rfl;go_wp2_with fail
 refine(gB T g cap b _ W2.heap.size 1 [13] _ h3 k3 Ob).mono ?_;rintro e w' ⟨rfl,nn,rfl⟩;have h4:=h3.drewN nn;have e4:=((e1.trans e2).trans e3).drewN nn;generalize ((W2.alloc (.cells #[.int .i64 13] 141)).drewN nn)=W4 at*;cases hs:aN T (r.opened T [12]) [13]
 ·go_wp2_with fail
  refine(aK1 T g cap b 335 n 2 E _ W4 xG HE.out HG.out HO.out h4 hd).mono ?_;rintro e W5 ⟨t,rfl,ht,it,h5,e5⟩;have HT:Hid _:=ht;have a5:=rY h.ends HG.out n _ o2;have h0:0<=(fX T E n (r.opened T [12])).1.nest/\(fX T E n (r.opened T [12])).1.nest<=1000000:=by rw[a5.nest];exact hd.nest
  go_wp2_with fail
  refine(nC T g cap b _ 13 W5 h5 Ob h0).mono ?_;rintro e W6 ⟨rfl,h6,e6⟩;have hf:Hid (lB T E n r=((fX T E n (r.opened T [12])).1.shut T 13,(fX T E n (r.opened T [12])).2)):=by unfold Hid lB;rw[hs];rfl
  go_wp2;go_ret;exact⟨t,rfl,by rw[hf.out];exact HT.out,(it.mono e4.size).ex h5 e6,by rw[hf.out];exact h6,(e4.trans e5).trans e6⟩
 ·have h0:=hd.nest;go_wp2_with fail
  refine(nC T g cap b _ 13 W4 h4 Ob h0).mono ?_;rintro e W6 ⟨rfl,h6,e6⟩;have hf:Hid (lB T E n r=((r.opened T [12]).shut T 13,.nil)):=by unfold Hid lB;rw[hs];rfl
  go_wp2;go_ret;exact⟨.nil,rfl,by rw[hf.out];rfl,New.nil _ _,by rw[hf.out];exact h6,e4.trans e6⟩
theorem dO{w:World}{k:Nat}{x:ByteArray}{p:Int}(h:w.heap[k]?=some (.cells #[.string x,.int .i64 p,.int .i64 0] 100 (0,0))):
 w.cell? ⟨k,0,none⟩=some (.string x)/\w.cell? ⟨k,1,none⟩=some (.int .i64 p)/\w.cell? ⟨k,2,none⟩=some (.int .i64 0):=⟨(bCM h).1,(bCM h).2.1,(bCM h).2.2.1⟩
theorem iZ{t:Tr}(h:er t= .nil\/∃ a x,er t=mk a x .nil/\a.tag=20):∃ ao n cp,bCH t= .slice ao n cp:=by
 cases t with
 |nil=>exact⟨none,0,0,rfl⟩
 |node b o a l r=>
  rcases h with h|⟨a',x,h,ha⟩
  ·cases h
  ·simp only[er,mk,BT.node.injEq]at h;obtain⟨_,_,rfl,_⟩:=h;exact⟨some ⟨b,0,none⟩,aO l,o,if_pos ha⟩
theorem aM8(T:List Tok)(E:Pr)(n:Nat):SoL (lB T E n):=fun r=>by
 unfold lB
 split
 ·exact .inl rfl
 ·exact .inr ⟨_,_,rfl,rfl⟩
theorem aJP(T:List Tok)(g cap b n:Nat)(E:Pr)(tk:Tok)(r:Rd)(w:World)(hE:dI T g cap b 335 E (Dm T n 2))(hG:aZ T E)(hO:So 0 7 E)(h:RdW T g cap b r w)(hn:0<=r.nest/\r.nest<=1000000)(k6:aN T r [16]=true->Dm T n 2 (r.opened T [16]))(k5:aN T r [12]=true->Dm T n 2 (r.opened T [12])):
 Calls Tryz.prog 364 #[.pointer (some ⟨b,0,none⟩),fV tk.text tk.pos] w (jL T g cap b w (gP T E n tk r) bCH):=by
 have HE:Hid (dI T g cap b 335 E (Dm T n 2)):=hE;have HG:Hid (aZ T E):=hG;have HO:Hid (So 0 7 E):=hO;have H1:Hid (aN T r [16]=true->Dm T n 2 (r.opened T [16])):=k6;have H2:Hid (aN T r [12]=true->Dm T n 2 (r.opened T [12])):=k5;clear hE hG hO k6 k5;unfold fV;have k0:(w.alloc (.cells #[.string tk.text,.int .i64 tk.pos,.int .i64 0] 100)).heap.size=w.heap.size+1:=Od
 have h1:=h.alloc (.cells #[.string tk.text,.int .i64 tk.pos,.int .i64 0] 100);have h2:=h1.alloc (.cells #[.int .i64 16] 141);have e2:=((Ex.refl b w).alloc (.cells #[.string tk.text,.int .i64 tk.pos,.int .i64 0] 100)).alloc (.cells #[.int .i64 16] 141);have k2:=bM (w.alloc (.cells #[.string tk.text,.int .i64 tk.pos,.int .i64 0] 100)) [16] #[.int .i64 16] rfl;rw[k0]at k2
 have n2:((w.alloc (.cells #[.string tk.text,.int .i64 tk.pos,.int .i64 0] 100)).alloc (.cells #[.int .i64 16] 141)).heap[w.heap.size]?=some (.cells #[.string tk.text,.int .i64 tk.pos,.int .i64 0] 100 (0,0)):=
  (On (by rw[k0];omega)).trans (Qb w _)
 have k3:w.heap.size≠b:=by have:=h.size;omega
 go_enter Tryz.func364,Tryz.ntmps364
 go_wp2_with fail
 refine(gB T g cap b r (w.heap.size+1) 1 [16] _ h2 k2 Ob).mono ?_;rintro e w' ⟨rfl,nn,rfl⟩;have h3:=h2.drewN nn;have e3:=e2.drewN nn;have n3:(((w.alloc (.cells #[.string tk.text,.int .i64 tk.pos,.int .i64 0] 100)).alloc (.cells #[.int .i64 16] 141)).drewN nn).heap[w.heap.size]?=_:=n2;clear h1 h2 e2 k2 n2 k0;generalize (((w.alloc (.cells #[.string tk.text,.int .i64 tk.pos,.int .i64 0] 100)).alloc (.cells #[.int .i64 16] 141)).drewN nn)=W3 at*;cases hs:aN T r [16]
 ·have h4:=h3.alloc (.cells #[.int .i64 12] 141);have e4:=e3.alloc (.cells #[.int .i64 12] 141);have k4:=bM W3 [12] #[.int .i64 12] rfl;have n4:(W3.alloc (.cells #[.int .i64 12] 141)).heap[w.heap.size]?=_:=(On (Oo n3)).trans n3;go_wp2_with fail
  refine(gB T g cap b r W3.heap.size 1 [12] _ h4 k4 Ob).mono ?_;rintro e w' ⟨rfl,n5,rfl⟩;have h5:=h4.drewN n5;have e5:=e4.drewN n5;have b5:((W3.alloc (.cells #[.int .i64 12] 141)).drewN n5).heap[w.heap.size]?=_:=n4;clear h3 h4 e3 e4 k4 n3 n4;generalize ((W3.alloc (.cells #[.int .i64 12] 141)).drewN n5)=W5 at*;obtain⟨m0,m1,m2⟩:=dO b5;cases hs2:aN T r [12]
  ·have hf:Hid (gP T E n tk r=(r,mO tk)):=by unfold Hid gP;rw[hs,hs2];rfl
   go_wp2;go_ret;refine⟨.node W5.heap.size 0 {tag:=1,name:=tk.text,npos:=tk.pos} .nil .nil,rfl,by rw[hf.out];rfl,New.node (New.nil _ _) (New.nil _ _) (fun _=>e5.size) Od ?_,by rw[hf.out];exact h5.alloc _,e5.alloc _⟩;exact⟨_,Qb W5 _,rfl,rfl,rfl⟩
  ·have hf:Hid (gP T E n tk r=((lB T E n r).1,mk {tag:=3,name:=tk.text,npos:=tk.pos} (lB T E n r).2 .nil)):=by unfold Hid gP;rw[hs,hs2];rfl
   have hD:=H2.out hs2;have m0':W5.drew.cell? ⟨w.heap.size,0,none⟩=some (.string tk.text):=m0;go_wp2_with fail
   go_region_held3 (fun w'=>w'.cell? ⟨w.heap.size,0,none⟩=some (.string tk.text)/\w'.cell? ⟨w.heap.size,1,none⟩=some (.int .i64 tk.pos)/\w'.cell? ⟨w.heap.size,2,none⟩=some (.int .i64 0))
    (first
      |(refine⟨?_,?_,?_⟩<;>assumption)
      |go_keep)
    ((refine eC rfl 365 #[.pointer (some ⟨b,0,none⟩)] _ (by go_simp) (aOZ T g cap b n E r _ HE.out HG.out HO.out h5.drew hn hD) ?_;rintro e W7 ⟨t7,rfl,h0,it7,h7,e7⟩;refine⟨_,rfl,?_⟩;have h6:Hid (er t7=(lB T E n r).2):=h0;clear h0;have n7:=(e7.block w.heap.size (Oo b5) k3).trans b5;have p0:=(dO n7).1;have p1:=(dO n7).2.1;have p2:=(dO n7).2.2;obtain⟨ao,ln,cq,h8⟩:=iZ (by rw[h6.out];exact aM8 T E n r);have k7:Hid (bCH t7= .slice ao ln cq):=h8;rw[h8];clear h8))
   go_wp2;go_ret;refine⟨.node W7.heap.size 0 {tag:=3,name:=tk.text,npos:=tk.pos} t7 .nil,rfl,?_,New.node ((it7.mono e5.size).ex h7 ((Ex.refl b W7).alloc _)) (New.nil _ _) (fun _=>(e5.drew.trans e7).size) Od ?_,by rw[hf.out];exact h7.alloc _,(e5.drew.trans e7).alloc _⟩
   ·rw[hf.out,<-h6.out];rfl
   ·exact⟨_,Qb W7 _,⟨rfl,rfl,rfl⟩,by rw[k7.out];rfl,rfl⟩
 ·have hf:Hid (gP T E n tk r=((gR T E r).1,mk {tag:=2,name:=tk.text,npos:=tk.pos} (gR T E r).2 .nil)):=by unfold Hid gP;rw[hs];rfl
  have hD:=H1.out hs;obtain⟨m0,m1,m2⟩:=dO n3;have m0':W3.drew.cell? ⟨w.heap.size,0,none⟩=some (.string tk.text):=m0;go_wp2_with fail
  go_region_held3 (fun w'=>w'.cell? ⟨w.heap.size,0,none⟩=some (.string tk.text)/\w'.cell? ⟨w.heap.size,1,none⟩=some (.int .i64 tk.pos)/\w'.cell? ⟨w.heap.size,2,none⟩=some (.int .i64 0))
   (first
     |(refine⟨?_,?_,?_⟩<;>assumption)
     |go_keep)
   ((refine eC rfl 336 #[.pointer (some ⟨b,0,none⟩)] _ (by go_simp) (aB2 T g cap b n E r _ HE.out HG.out HO.out h3.drew hn hD) ?_;rintro e W7 ⟨t7,rfl,h0,it7,h7,e7⟩;refine⟨_,rfl,?_⟩;have h6:Hid (er t7=(gR T E r).2):=h0;clear h0;have n7:=(e7.block w.heap.size (Oo n3) k3).trans n3;have p0:=(dO n7).1;have p1:=(dO n7).2.1;have p2:=(dO n7).2.2;obtain⟨ya,yx,yy,k1,_,hyt⟩:=HO.out (r.opened T [16]);obtain⟨u7,p7,h9⟩:=aUJ (h6.out.trans k1) Oa;have k8:Hid (bCH t7= .iface u7 (.pointer (some p7))):=h9;rw[h9];clear h9 k1))
  go_wp2;go_ret;refine⟨.node W7.heap.size 0 {tag:=2,name:=tk.text,npos:=tk.pos} t7 .nil,rfl,?_,New.node ((it7.mono e3.size).ex h7 ((Ex.refl b W7).alloc _)) (New.nil _ _) (fun _=>(e3.drew.trans e7).size) Od ?_,by rw[hf.out];exact h7.alloc _,(e3.drew.trans e7).alloc _⟩
  ·rw[hf.out,<-h6.out];rfl
  ·exact⟨_,Qb W7 _,⟨rfl,rfl,rfl⟩,by rw[k8.out];rfl,rfl⟩
end Go.Proofs.YtikffmloeifkpaaGreatDoor
