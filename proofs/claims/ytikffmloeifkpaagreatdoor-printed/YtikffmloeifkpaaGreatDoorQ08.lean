/- Contracts. -/
import Derived.Test.YtikffmloeifkpaaGreatDoorQ07
set_option maxHeartbeats 4000000
set_option maxRecDepth 100000
namespace Go.Proofs.YtikffmloeifkpaaGreatDoor
open Go.RowKit Go.Lib Go.Deep
theorem yD{T:List Tok}{r:Rd}{ks:List Int}(h:(cN T r ks).kind≠0):aN T r ks=true:=by
 cases hs:aN T r ks
 ·unfold cN at h;rw[hs]at h;exact absurd rfl h
 ·rfl
theorem sR{T:List Tok}(he:cY T){r:Rd}(h:r.next < T.length){ks:List Int}(h0:aQ ks 0=false)(hs:aN T r ks=true):r.next+1<=(r.opened T ks).next:=by
 have h1:=qS hs;have h2:=(mD (aP he h h0).lt (cN T r ks).pos).1;show _<=((r.take T ks).deeper T.length (cN T r ks).pos).next;omega
theorem aBB{T:List Tok}(he:cY T){n q:Nat}{r:Rd}(h:r.next < T.length){ks:List Int}(h0:aQ ks 0=false)(hd:Dm T (n+1) q r)(hs:aN T r ks=true):Dm T n 2 (r.opened T ks):=by
 have h1:=sR he h h0 hs;obtain⟨o1,o2,o3⟩:=dF he h h0;obtain⟨d1,d2,d3⟩:=hd;exact⟨Oa,Oa,Oa⟩
theorem aGM(T:List Tok)(g cap b n:Nat)(E F:Pr)(r:Rd)(w:World)(hE:dI T g cap b 335 E (Dm T n 2))(y2:aZ T E)(y0:So 0 7 E)(hF:dI T g cap b 362 F (Dm T n 0))(y1:aZ T F)(k9:So 0 7 F)(h:RdW T g cap b r w)(hd:Dm T (n+1) 0 r):
 Calls Tryz.prog 362 #[.pointer (some ⟨b,0,none⟩)] w (jL T g cap b w (gM T E F n r) bCH):=by
 have HE:Hid (dI T g cap b 335 E (Dm T n 2)):=hE;have y4:Hid (aZ T E):=y2;have y3:Hid (So 0 7 E):=y0;have HF:Hid (dI T g cap b 362 F (Dm T n 0)):=hF;have y8:Hid (aZ T F):=y1;have y7:Hid (So 0 7 F):=k9;clear hE y2 y0 hF y1 k9;have h1:=h.alloc (.cells #[.int .i64 2,.int .i64 1,.int .i64 12,.int .i64 28] 141);have e1:=(Ex.refl b w).alloc (.cells #[.int .i64 2,.int .i64 1,.int .i64 12,.int .i64 28] 141);have k1:=bM w cA #[.int .i64 2,.int .i64 1,.int .i64 12,.int .i64 28] rfl;go_enter Tryz.func362,Tryz.ntmps362
 go_wp2_with fail
 refine(fG T g cap b r w.heap.size 4 cA _ h1 k1 Ob Ob).mono ?_;rintro e W2 ⟨rfl,h2,e2⟩;have a2:=aP h.ends h.lt (show aQ cA 0=false by decide);have HS:Hid ((cN T r cA).kind≠0->(r.take T cA).next=r.next+1):=fun hk=>qS (yD hk);generalize hq:cN T r cA=q at*;have HQ:Hid (cN T r cA=q):=hq;clear hq;rw[Tok.val_eq];have h3:=h2.alloc (.cells #[.int .i64 q.kind,.int .i64 q.pos,.string q.text,.int .i64 q.value] 143);have e3:=(e1.trans e2).alloc (.cells #[.int .i64 q.kind,.int .i64 q.pos,.string q.text,.int .i64 q.value] 143);have n3:(W2.alloc (.cells #[.int .i64 q.kind,.int .i64 q.pos,.string q.text,.int .i64 q.value] 143)).heap[W2.heap.size]?=some (.cells #[.int .i64 q.kind,.int .i64 q.pos,.string q.text,.int .i64 q.value] 143 (0,0)):=Qb W2 _;have hne:W2.heap.size≠b:=by have:=h2.size;omega
 have k3:0<=(r.take T cA).nest/\(r.take T cA).nest<=1000000:=by rw[a2.nest];exact hd.nest
 have hlt:=h.lt;obtain⟨d1,d2,d3⟩:=mD a2.lt q.pos
 by_cases k2:q.kind=2
 ·have hf:Hid (gM T E F n r=(r.take T cA,vY q.value)):=by unfold Hid gM;dsimp only;rw[HQ.out,if_pos k2]
  have k2':(q.kind==2)=true:=by simpa using k2
  clear k2;go_wp2;go_ret;refine⟨.node (W2.heap.size+1) 0 {tag:=0,val:=q.value} .nil .nil,rfl,by rw[hf.out];rfl,New.node (New.nil _ _) (New.nil _ _) (fun _=>by have:=(e1.trans e2).size;omega) Od ?_,by rw[hf.out];exact h3.alloc _,e3.alloc _⟩;exact⟨_,by have:=Qb (W2.alloc (.cells #[.int .i64 q.kind,.int .i64 q.pos,.string q.text,.int .i64 q.value] 143)) (.cells #[.int .i64 q.value] 364);simpa using this,rfl⟩
 have k2':(q.kind==2)=false:=by simpa using k2
 by_cases k12:q.kind=12
 ·have hf:Hid (gM T E F n r=((E ((r.take T cA).deeper T.length q.pos)).1.shut T 13,mk {tag:=4} (E ((r.take T cA).deeper T.length q.pos)).2 .nil)):=by
   unfold Hid gM;dsimp only;rw[HQ.out,if_neg k2,if_pos k12]
  have y6:=HS.out Oa
  have k8:Dm T n 2 ((r.take T cA).deeper T.length q.pos):=by
   obtain⟨x1,x2,x3⟩:=hd;have:=a2.nest;exact⟨Oa,Oa,Oa⟩
  have k12':(q.kind==12)=true:=by simpa using k12
  clear k2 k12;obtain⟨m0,m1,m2,m3,_⟩:=dG n3;go_wp2_with fail
  generalize W2.alloc (.cells #[.int .i64 q.kind,.int .i64 q.pos,.string q.text,.int .i64 q.value] 143)=W3 at*;refine(tU T g cap b _ q W3 h3 k3).mono ?_;rintro e W4 ⟨rfl,h4,e4⟩;go_wp2_with fail
  refine(HE.out _ _ h4 k8).mono ?_;rintro e W5 ⟨t5,rfl,h0,it5,h5,e5⟩;have h8:Hid (er t5=(E ((r.take T cA).deeper T.length q.pos)).2):=h0;obtain⟨ya,yx,yy,h9,_,y5⟩:=y3.out ((r.take T cA).deeper T.length q.pos);obtain⟨u5,p5,h7⟩:=aUJ (h8.out.trans h9) Oa;have k4:Hid (bCH t5= .iface u5 (.pointer (some p5))):=h7;rw[h7];clear h7 h9 h0;have a5:=y4.out _ d2;have k0:0<=(E ((r.take T cA).deeper T.length q.pos)).1.nest/\(E ((r.take T cA).deeper T.length q.pos)).1.nest<=1000000:=by rw[a5.nest];exact k8.nest
  go_wp2_with fail
  refine(nC T g cap b _ 13 W5 h5 Ob k0).mono ?_;rintro e W6 ⟨rfl,h6,e6⟩;go_wp2;go_ret;have ee:=((e3.trans e4).trans e5).trans e6;refine⟨.node W6.heap.size 0 {tag:=4} t5 .nil,rfl,?_,New.node (((it5.mono (e3.trans e4).size).ex h5 e6).ex h6 ((Ex.refl b W6).alloc _)) (New.nil _ _) (fun _=>ee.size) Od ?_,by rw[hf.out];exact h6.alloc _,ee.alloc _⟩
  ·rw[hf.out,<-h8.out];rfl
  ·exact⟨_,Qb W6 _,by rw[k4.out];rfl⟩
 have k12':(q.kind==12)=false:=by simpa using k12
 by_cases k28:q.kind=28
 ·have hf:Hid (gM T E F n r=(⟨(F ((r.take T cA).deeper T.length q.pos)).1.next,(F ((r.take T cA).deeper T.length q.pos)).1.nest - 1,(F ((r.take T cA).deeper T.length q.pos)).1.code,(F ((r.take T cA).deeper T.length q.pos)).1.pos⟩,mk {tag:=5} (F ((r.take T cA).deeper T.length q.pos)).2 .nil)):=by
   unfold Hid gM;dsimp only;rw[HQ.out,if_neg k2,if_neg k12,if_pos k28]
  have y6:=HS.out Oa
  have k7:Dm T n 0 ((r.take T cA).deeper T.length q.pos):=by
   obtain⟨x1,x2,x3⟩:=hd;have:=a2.nest;exact⟨Oa,Oa,Oa⟩
  have k28':(q.kind==28)=true:=by simpa using k28
  clear k2 k12 k28;obtain⟨m0,m1,m2,m3,_⟩:=dG n3;go_wp2_with fail
  generalize W2.alloc (.cells #[.int .i64 q.kind,.int .i64 q.pos,.string q.text,.int .i64 q.value] 143)=W3 at*;refine(tU T g cap b _ q W3 h3 k3).mono ?_;rintro e W4 ⟨rfl,h4,e4⟩;go_wp2_with fail
  refine(HF.out _ _ h4 k7).mono ?_;rintro e W5 ⟨t5,rfl,h0,it5,h5,e5⟩;have h8:Hid (er t5=(F ((r.take T cA).deeper T.length q.pos)).2):=h0;obtain⟨ya,yx,yy,h9,_,y5⟩:=y7.out ((r.take T cA).deeper T.length q.pos);obtain⟨u5,p5,h7⟩:=aUJ (h8.out.trans h9) Oa;have k4:Hid (bCH t5= .iface u5 (.pointer (some p5))):=h7;rw[h7];clear h7 h9 h0;have a5:=y8.out _ d2;have k0:0<=(F ((r.take T cA).deeper T.length q.pos)).1.nest/\(F ((r.take T cA).deeper T.length q.pos)).1.nest<=1000000:=by rw[a5.nest];exact k7.nest
  obtain⟨n5,n6⟩:=k0;have c2:=h5.c2;have f2:=h5.froz 2;have h6:=h5.setNest ((F ((r.take T cA).deeper T.length q.pos)).1.nest - 1);have e6:=(Ex.refl b W5).set 2 (.int .i64 ((F ((r.take T cA).deeper T.length q.pos)).1.nest - 1));have s6:(W5.setCell ⟨b,2,none⟩ (.int .i64 ((F ((r.take T cA).deeper T.length q.pos)).1.nest - 1))).heap.size=W5.heap.size:=by simp[World.setCell]
  go_wp2;go_ret;have ee:=((e3.trans e4).trans e5).trans e6;refine⟨.node W5.heap.size 0 {tag:=5} t5 .nil,rfl,?_,New.node (((it5.mono (e3.trans e4).size).ex h5 e6).ex h6 ((Ex.refl b _).alloc _)) (New.nil _ _) (fun _=>((e3.trans e4).trans e5).size) Od ?_,by rw[hf.out];exact h6.alloc _,ee.alloc _⟩
  ·rw[hf.out,<-h8.out];rfl
  ·exact⟨_,by rw[<-s6];exact Qb _ _,by rw[k4.out];rfl⟩
 ·have hf:Hid (gM T E F n r=gP T E n q (r.take T cA)):=by
   unfold Hid gM;dsimp only;rw[HQ.out,if_neg k2,if_neg k12,if_neg k28]
  have k28':(q.kind==28)=false:=by simpa using k28
  have k6:aN T (r.take T cA) [16]=true->Dm T n 2 ((r.take T cA).opened T [16]):=fun hs=>aBB h.ends a2.lt Ob (hd.adv a2) hs;have k5:aN T (r.take T cA) [12]=true->Dm T n 2 ((r.take T cA).opened T [12]):=fun hs=>aBB h.ends a2.lt Ob (hd.adv a2) hs;have z0:Hid _:=k6;have y9:Hid _:=k5;clear k2 k12 k28 k6 k5;obtain⟨m0,m1,m2,m3,_⟩:=dG n3;go_wp2_with fail
  generalize W2.alloc (.cells #[.int .i64 q.kind,.int .i64 q.pos,.string q.text,.int .i64 q.value] 143)=W3 at*;refine(bCR q W3).mono ?_;rintro e W4 ⟨rfl,b4⟩;have h4:=h3.below b4;have e4:=e3.trans (Ex.of_below (b:=b) b4);go_wp2_with fail
  refine(aJP T g cap b n E q _ W4 HE.out y4.out y3.out h4 k3 z0.out y9.out).mono ?_;rintro e W5 ⟨t5,rfl,h0,it5,h5,e5⟩;have h8:Hid (er t5=(gP T E n q (r.take T cA)).2):=h0;clear h0;go_wp2;go_ret;exact⟨t5,rfl,by rw[hf.out];exact h8.out,it5.mono e4.size,by rw[hf.out];exact h5,e4.trans e5⟩
theorem aAE:∀ args wx,(callFunc 362 args).run Tryz.prog wx= .ok (.enter 362 args) wx:=by intro args wx;go_simp
theorem aEN:∀ args wx,(callFunc 353 args).run Tryz.prog wx= .ok (.enter 353 args) wx:=by intro args wx;go_simp
theorem aEP:∀ args wx,(callFunc 334 args).run Tryz.prog wx= .ok (.enter 334 args) wx:=by intro args wx;go_simp
theorem aEQ:∀ args wx,(callFunc 351 args).run Tryz.prog wx= .ok (.enter 351 args) wx:=by intro args wx;go_simp
theorem aER:∀ args wx,(callFunc 245 args).run Tryz.prog wx= .ok (.enter 245 args) wx:=by intro args wx;go_simp
theorem zU:∀ args wx,(callFunc 191 args).run Tryz.prog wx= .ok (.enter 191 args) wx:=by intro args wx;go_simp
theorem aEO:∀ args wx,(callFunc 185 args).run Tryz.prog wx= .ok (.enter 185 args) wx:=by intro args wx;go_simp
theorem aAL{T:List Tok}{g cap b:Nat}{r:Rd}{w:World}(h:RdW T g cap b r w)(ks:List Int):0<=(cN T r ks).value/\(cN T r ks).value<=999999999:=by
 unfold cN
 split
 ·have h1:=lJ h.lt;exact h.vals _ (Qi h1)
 ·exact⟨by show(0:Int)<=0;omega,by show(0:Int)<=999999999;omega⟩
theorem aEK(t:Tok)(w:World):(Instr.field 143 (.agg #[.int .i64 t.kind,.int .i64 t.pos,.string t.text,.int .i64 t.value]) 3).run Tryz.prog w= .ok (.int .i64 t.value) w:=by kernel_rfl
theorem jL.from{T:List Tok}{g cap b:Nat}{w w1:World}{q:Rd × Tr}{val:Tr->Value}{e:Ending}{w':World}(h:jL T g cap b w1 q val e w')(he:Ex b w w1):jL T g cap b w q val e w':=by
 obtain⟨t,h1,h2,h3,h4,h5⟩:=h;exact⟨t,h1,h2,h3.mono he.size,h4,he.trans h5⟩
theorem aLF(T:List Tok)(g cap b n:Nat)(S:Pr)(r:Rd)(w:World)(hS:dI T g cap b 362 S (Dm T n 0))(hG:aZ T S)(hO:So 0 7 S)(h:RdW T g cap b r w)(hd:Dm T n 0 r):
 Calls Tryz.prog 353 #[.pointer (some ⟨b,0,none⟩)] w (jL T g cap b w (lA T S [29,30,31] n r) bCH):=by
 have HS:Hid (dI T g cap b 362 S (Dm T n 0)):=hS;have HG:Hid (aZ T S):=hG;have HO:Hid (So 0 7 S):=hO;clear hS hG hO;have hmf:∀ (fn:Fn) (first cap:Array Value) (w:World),(Instr.makeFunc fn first cap).run Tryz.prog w= .ok (.func fn first cap) w:=fun _ _ _ _=>rfl;have h1:=h.alloc (.cells #[.int .i64 29,.int .i64 30,.int .i64 31] 141);have e1:=(Ex.refl b w).alloc (.cells #[.int .i64 29,.int .i64 30,.int .i64 31] 141);have k1:=bM w [29,30,31] #[.int .i64 29,.int .i64 30,.int .i64 31] rfl;have hb:=h.size;go_enter Tryz.func353,Tryz.ntmps353
 go_wp2_with fail
 refine(aBF T g cap b 362 n 0 w.heap.size S [29,30,31] _ r _ aAE HS.out HG.out HO.out h1 hd k1 Oa Ob Ob).mono ?_;rintro e W2 ⟨t,rfl,ht,it,h2,e2⟩;have HT:Hid (er t=(lA T S [29,30,31] n r).2):=ht;clear ht;go_wp2;go_ret;exact jL.from ⟨t,rfl,HT.out,it,h2,e2⟩ e1
theorem aO4(T:List Tok)(g cap b n:Nat)(S:Pr)(r:Rd)(w:World)(hS:dI T g cap b 353 S (Dm T n 1))(hG:aZ T S)(hO:So 0 7 S)(h:RdW T g cap b r w)(hd:Dm T n 1 r):
 Calls Tryz.prog 335 #[.pointer (some ⟨b,0,none⟩)] w (jL T g cap b w (lA T S [27,28] n r) bCH):=by
 have HS:Hid (dI T g cap b 353 S (Dm T n 1)):=hS;have HG:Hid (aZ T S):=hG;have HO:Hid (So 0 7 S):=hO;clear hS hG hO;have hmf:∀ (fn:Fn) (first cap:Array Value) (w:World),(Instr.makeFunc fn first cap).run Tryz.prog w= .ok (.func fn first cap) w:=fun _ _ _ _=>rfl;have h1:=h.alloc (.cells #[.int .i64 27,.int .i64 28] 141);have e1:=(Ex.refl b w).alloc (.cells #[.int .i64 27,.int .i64 28] 141);have k1:=bM w [27,28] #[.int .i64 27,.int .i64 28] rfl;have hb:=h.size;go_enter Tryz.func335,Tryz.ntmps335
 go_wp2_with fail
 refine(aBF T g cap b 353 n 1 w.heap.size S [27,28] _ r _ aEN HS.out HG.out HO.out h1 hd k1 Oa Ob Ob).mono ?_;rintro e W2 ⟨t,rfl,ht,it,h2,e2⟩;have HT:Hid (er t=(lA T S [27,28] n r).2):=ht;clear ht;go_wp2;go_ret;exact jL.from ⟨t,rfl,HT.out,it,h2,e2⟩ e1
theorem aOG(T:List Tok)(g cap b n:Nat)(S:Pr)(r:Rd)(w:World)(hS:dI T g cap b 351 S (Dm T n 3))(hG:aZ T S)(hO:So 7 9 S)(h:RdW T g cap b r w)(hd:Dm T n 3 r):
 Calls Tryz.prog 334 #[.pointer (some ⟨b,0,none⟩)] w (jL T g cap b w (kK T S 32 n r) bCH):=by
 have HS:Hid (dI T g cap b 351 S (Dm T n 3)):=hS;have HG:Hid (aZ T S):=hG;have HO:Hid (So 7 9 S):=hO;clear hS hG hO;have hmf:∀ (fn:Fn) (first cap:Array Value) (w:World),(Instr.makeFunc fn first cap).run Tryz.prog w= .ok (.func fn first cap) w:=fun _ _ _ _=>rfl;go_enter Tryz.func334,Tryz.ntmps334
 go_wp2_with fail
 refine(aAZ T g cap b 351 n 3 S 32 r _ aEQ HS.out HG.out HO.out h hd Ob).mono ?_;rintro e W2 ⟨t,rfl,ht,it,h2,e2⟩;have HT:Hid (er t=(kK T S 32 n r).2):=ht;clear ht;go_wp2;go_ret;exact⟨t,rfl,HT.out,it,h2,e2⟩
theorem aOI(T:List Tok)(g cap b n:Nat)(S:Pr)(r:Rd)(w:World)(hS:dI T g cap b 334 S (Dm T n 4))(hG:aZ T S)(hO:So 7 9 S)(h:RdW T g cap b r w)(hd:Dm T n 4 r):
 Calls Tryz.prog 299 #[.pointer (some ⟨b,0,none⟩)] w (jL T g cap b w (kK T S 33 n r) bCH):=by
 have HS:Hid (dI T g cap b 334 S (Dm T n 4)):=hS;have HG:Hid (aZ T S):=hG;have HO:Hid (So 7 9 S):=hO;clear hS hG hO;have hmf:∀ (fn:Fn) (first cap:Array Value) (w:World),(Instr.makeFunc fn first cap).run Tryz.prog w= .ok (.func fn first cap) w:=fun _ _ _ _=>rfl;go_enter Tryz.func299,Tryz.ntmps299
 go_wp2_with fail
 refine(aAZ T g cap b 334 n 4 S 33 r _ aEP HS.out HG.out HO.out h hd Ob).mono ?_;rintro e W2 ⟨t,rfl,ht,it,h2,e2⟩;have HT:Hid (er t=(kK T S 33 n r).2):=ht;clear ht;go_wp2;go_ret;exact⟨t,rfl,HT.out,it,h2,e2⟩
theorem aD2{t:Tr}{a:Nd}{x y:Tr}(h:er t=mk a x y)(ha:a.tag=7):∃ p,cB t= .pointer (some p)/\bCH t= .iface 253 (.pointer (some p)):=by
 obtain⟨b,o,l,r,rfl,_,_⟩:=oI h;exact⟨⟨b,0,none⟩,rfl,by show(if a.tag=20 then _ else _)=_;rw[Oh,ha];rfl⟩
theorem aOJ(T:List Tok)(g cap b n:Nat)(S:Pr)(r:Rd)(w:World)(hS:dI T g cap b 335 S (Dm T n 2))(hG:aZ T S)(hO:So 0 7 S)(h:RdW T g cap b r w)(hd:Dm T n 2 r):
 Calls Tryz.prog 351 #[.pointer (some ⟨b,0,none⟩)] w (jL T g cap b w (iJ T S r) bCH):=by
 have HS:Hid (dI T g cap b 335 S (Dm T n 2)):=hS;have HG:Hid (aZ T S):=hG;have HO:Hid (So 0 7 S):=hO;clear hS hG hO;have hmf:∀ (fn:Fn) (first cap:Array Value) (w:World),(Instr.makeFunc fn first cap).run Tryz.prog w= .ok (.func fn first cap) w:=fun _ _ _ _=>rfl;go_enter Tryz.func351,Tryz.ntmps351
 go_wp2_with fail
 refine(sU T g cap b 335 n 2 S r _ xG HS.out HG.out HO.out h hd).mono ?_;rintro e W2 ⟨t,rfl,ht,it,h2,e2⟩;obtain⟨p,hp,hv⟩:=aD2 ht rfl;have HT:Hid (er t=(iJ T S r).2):=ht;have HV:Hid (bCH t= .iface 253 (.pointer (some p))):=hv;rw[hp];clear ht hp hv;go_wp2;go_ret;exact⟨t,by rw[HV.out];rfl,HT.out,it,h2,e2⟩
theorem aHJ(T:List Tok)(g cap b n:Nat)(r:Rd)(w:World)(hS:dI T g cap b 245 (lG T) (Dm T n 0))(h:RdW T g cap b r w)(hd:Dm T n 0 r):
 Calls Tryz.prog 191 #[.pointer (some ⟨b,0,none⟩)] w (jL T g cap b w (uK T r) cB):=by
 have HS:Hid (dI T g cap b 245 (lG T) (Dm T n 0)):=hS;clear hS;have hmf:∀ (fn:Fn) (first cap:Array Value) (w:World),(Instr.makeFunc fn first cap).run Tryz.prog w= .ok (.func fn first cap) w:=fun _ _ _ _=>rfl;go_enter Tryz.func191,Tryz.ntmps191
 go_wp2_with fail
 refine(sU T g cap b 245 n 0 (lG T) r _ aER HS.out (wH h.ends) aPX h hd).mono ?_;rintro e W2 ⟨t,rfl,ht,it,h2,e2⟩;obtain⟨p,hp,hv⟩:=aD2 ht rfl;have HT:Hid (er t=(iJ T (lG T) r).2):=ht;have HP:Hid (cB t= .pointer (some p)):=hp;rw[hp];clear ht hp hv;go_wp2;go_ret;exact⟨t,by rw[HP.out];rfl,HT.out,it,h2,e2⟩
theorem aF6(T:List Tok)(g cap b n:Nat):dI T g cap b 245 (lG T) (Dm T n 0):=by
 intro r w h hd;have h1:=h.alloc (.cells #[.int .i64 28,.int .i64 2,.int .i64 1] 141);have e1:=(Ex.refl b w).alloc (.cells #[.int .i64 28,.int .i64 2,.int .i64 1] 141);have k1:=bM w [28,2,1] #[.int .i64 28,.int .i64 2,.int .i64 1] rfl;go_enter Tryz.func245,Tryz.ntmps245
 go_wp2_with fail
 refine(fG T g cap b r w.heap.size 3 [28,2,1] _ h1 k1 Ob Ob).mono ?_;rintro e W2 ⟨rfl,h2,e2⟩;generalize hq:cN T r [28,2,1]=q at*;have HQ:Hid (cN T r [28,2,1]=q):=hq;clear hq;rw[Tok.val_eq];have h3:=h2.alloc (.cells #[.int .i64 q.kind,.int .i64 q.pos,.string q.text,.int .i64 q.value] 143);have e3:=(e1.trans e2).alloc (.cells #[.int .i64 q.kind,.int .i64 q.pos,.string q.text,.int .i64 q.value] 143);have n3:(W2.alloc (.cells #[.int .i64 q.kind,.int .i64 q.pos,.string q.text,.int .i64 q.value] 143)).heap[W2.heap.size]?=some (.cells #[.int .i64 q.kind,.int .i64 q.pos,.string q.text,.int .i64 q.value] 143 (0,0)):=Qb W2 _;have s3:(W2.alloc (.cells #[.int .i64 q.kind,.int .i64 q.pos,.string q.text,.int .i64 q.value] 143)).heap.size=W2.heap.size+1:=Od
 obtain⟨m0,m1,m2,m3,_⟩:=dG n3
 by_cases k28:q.kind=28
 ·have k28':(q.kind==28)=true:=by simpa using k28
  have k4:=bM (W2.alloc (.cells #[.int .i64 q.kind,.int .i64 q.pos,.string q.text,.int .i64 q.value] 143)) [2] #[.int .i64 2] rfl;rw[s3]at k4;have h4:=h3.alloc (.cells #[.int .i64 2] 141);have e4:=e3.alloc (.cells #[.int .i64 2] 141);have hf:Hid (lG T r=((r.take T [28,2,1]).take T [2],vY (-(cN T (r.take T [28,2,1]) [2]).value))):=by unfold Hid lG;dsimp only;rw[HQ.out,if_pos k28]
  clear k28;go_wp2_with fail
  refine(fG T g cap b _ (W2.heap.size+1) 1 [2] _ h4 k4 Ob Ob).mono ?_;rintro e W5 ⟨rfl,h5,e5⟩;have h6:=aAL h2 [2];generalize h0:cN T (r.take T [28,2,1]) [2]=q2 at*;have HQ2:Hid (cN T (r.take T [28,2,1]) [2]=q2):=h0;clear h0;obtain⟨v2,v3⟩:=h6;rw[Tok.val_eq];have hfl:=aEK q2;go_wp2;go_ret;refine⟨.node W5.heap.size 0 {tag:=0,val:=-q2.value} .nil .nil,rfl,by rw[hf.out];rfl,New.node (New.nil _ _) (New.nil _ _) (fun _=>(e4.trans e5).size) Od ?_,by rw[hf.out];exact h5.alloc _,(e4.trans e5).alloc _⟩;exact⟨_,Qb W5 _,rfl⟩
 have k28':(q.kind==28)=false:=by simpa using k28
 by_cases k2:q.kind=2
 ·have k2':(q.kind==2)=true:=by simpa using k2
  have hf:Hid (lG T r=(r.take T [28,2,1],vY q.value)):=by unfold Hid lG;dsimp only;rw[HQ.out,if_neg k28,if_pos k2]
  clear k2 k28;go_wp2;go_ret;refine⟨.node (W2.heap.size+1) 0 {tag:=0,val:=q.value} .nil .nil,rfl,by rw[hf.out];rfl,New.node (New.nil _ _) (New.nil _ _) (fun _=>by have:=(e1.trans e2).size;omega) Od ?_,by rw[hf.out];exact h3.alloc _,e3.alloc _⟩;exact⟨_,by have:=Qb (W2.alloc (.cells #[.int .i64 q.kind,.int .i64 q.pos,.string q.text,.int .i64 q.value] 143)) (.cells #[.int .i64 q.value] 364);simpa using this,rfl⟩
 ·have k2':(q.kind==2)=false:=by simpa using k2
  have hf:Hid (lG T r=(r.take T [28,2,1],mO q)):=by unfold Hid lG;dsimp only;rw[HQ.out,if_neg k28,if_neg k2]
  clear k2 k28;go_wp2_with fail
  generalize W2.alloc (.cells #[.int .i64 q.kind,.int .i64 q.pos,.string q.text,.int .i64 q.value] 143)=W3 at*;refine(bCR q W3).mono ?_;rintro e W4 ⟨rfl,b4⟩;have h4:=h3.below b4;have e4:=e3.trans (Ex.of_below (b:=b) b4);unfold fV;go_wp2;go_ret;refine⟨.node W4.heap.size 0 {tag:=1,name:=q.text,npos:=q.pos} .nil .nil,rfl,by rw[hf.out];rfl,New.node (New.nil _ _) (New.nil _ _) (fun _=>e4.size) Od ?_,by rw[hf.out];exact h4.alloc _,e4.alloc _⟩;exact⟨_,Qb W4 _,rfl,rfl,rfl⟩
theorem aHG(T:List Tok)(g cap b n:Nat)(E:Pr)(tk:Tok)(q:Bool)(r:Rd)(w:World)(hE:dI T g cap b 335 E (Dm T n 2))(hO:So 0 7 E)(h:RdW T g cap b r w)(hd:Dm T n 2 (r.take T [20])):
 Calls Tryz.prog 297 #[.pointer (some ⟨b,0,none⟩),fV tk.text tk.pos,.bool q] w (jL T g cap b w (sQ T E tk q r) cB):=by
 have HE:Hid (dI T g cap b 335 E (Dm T n 2)):=hE;have HO:Hid (So 0 7 E):=hO;clear hE hO;unfold fV;have h1:(w.alloc (.cells #[.string tk.text,.int .i64 tk.pos,.int .i64 0] 100)).heap.size=w.heap.size+1:=Od
 have h2:=(h.alloc (.cells #[.string tk.text,.int .i64 tk.pos,.int .i64 0] 100)).alloc (.cells #[.int .i64 20] 141);have e2:=((Ex.refl b w).alloc (.cells #[.string tk.text,.int .i64 tk.pos,.int .i64 0] 100)).alloc (.cells #[.int .i64 20] 141);have k2:=bM (w.alloc (.cells #[.string tk.text,.int .i64 tk.pos,.int .i64 0] 100)) [20] #[.int .i64 20] rfl;rw[h1]at k2
 have n2:((w.alloc (.cells #[.string tk.text,.int .i64 tk.pos,.int .i64 0] 100)).alloc (.cells #[.int .i64 20] 141)).heap[w.heap.size]?=some (.cells #[.string tk.text,.int .i64 tk.pos,.int .i64 0] 100 (0,0)):=
  (On (by rw[h1];omega)).trans (Qb w _)
 have h6:w.heap.size≠b:=by have:=h.size;omega
 go_enter Tryz.func297,Tryz.ntmps297
 go_wp2_with fail
 refine(fG T g cap b r (w.heap.size+1) 1 [20] _ h2 k2 Ob Ob).mono ?_;rintro e W3 ⟨rfl,h3,e3⟩;have n3:=(e3.block w.heap.size (Oo n2) h6).trans n2;have ee:=e2.trans e3;clear h2 e2 k2 n2 h1;obtain⟨m0,m1,m2⟩:=dO n3;have m0':W3.drew.cell? ⟨w.heap.size,0,none⟩=some (.string tk.text):=m0;have hf:Hid (sQ T E tk q r=((fM T E (r.take T [20])).1,mk {tag:=9,name:=tk.text,npos:=tk.pos,flag:=q} (fM T E (r.take T [20])).2 .nil)):=rfl;go_wp2_with fail
 go_region_held3 (fun w'=>w'.cell? ⟨w.heap.size,0,none⟩=some (.string tk.text)/\w'.cell? ⟨w.heap.size,1,none⟩=some (.int .i64 tk.pos)/\w'.cell? ⟨w.heap.size,2,none⟩=some (.int .i64 0))
  (first
    |(refine⟨?_,?_,?_⟩<;>assumption)
    |go_keep)
  ((refine eC rfl 300 #[.pointer (some ⟨b,0,none⟩)] _ (by go_simp) (bCZ T g cap b n E _ _ HE.out h3.drew hd) ?_;rintro e W7 ⟨t7,rfl,h5,it7,h7,e7⟩;refine⟨_,rfl,?_⟩;have h8:Hid (er t7=(fM T E (r.take T [20])).2):=h5;clear h5;have n7:=(e7.block w.heap.size (Oo n3) h6).trans n3;have p0:=(dO n7).1;have p1:=(dO n7).2.1;have p2:=(dO n7).2.2;obtain⟨ya,yx,yy,h4,_,hyt⟩:=HO.out (r.take T [20]);obtain⟨u7,p7,h0⟩:=aUJ (h8.out.trans h4) Oa;have h9:Hid (bCH t7= .iface u7 (.pointer (some p7))):=h0;rw[h0];clear h0 h4))
 go_wp2;go_ret;refine⟨.node W7.heap.size 0 {tag:=9,name:=tk.text,npos:=tk.pos,flag:=q} t7 .nil,rfl,?_,New.node ((it7.mono ee.size).ex h7 ((Ex.refl b W7).alloc _)) (New.nil _ _) (fun _=>(ee.drew.trans e7).size) Od ?_,by rw[hf.out];exact h7.alloc _,(ee.drew.trans e7).alloc _⟩
 ·rw[hf.out,<-h8.out];rfl
 ·exact⟨_,Qb W7 _,⟨rfl,rfl,rfl⟩,by rw[h9.out];rfl,rfl⟩
theorem aIU(T:List Tok)(g cap b n:Nat)(E:Pr)(tk:Tok)(r:Rd)(w:World)(hE:dI T g cap b 335 E (Dm T n 2))(hG:aZ T E)(hO:So 0 7 E)(h:RdW T g cap b r w)(hn:0<=r.nest/\r.nest<=1000000)(hd:Dm T n 2 (r.opened T [16]))(k5:Dm T n 2 ((gR T E r).1.take T [20])):
 Calls Tryz.prog 301 #[.pointer (some ⟨b,0,none⟩),fV tk.text tk.pos] w (jL T g cap b w (lK T E tk r) cB):=by
 have HE:Hid (dI T g cap b 335 E (Dm T n 2)):=hE;have HG:Hid (aZ T E):=hG;have HO:Hid (So 0 7 E):=hO;clear hE hO hG;unfold fV;have h2:=(h.alloc (.cells #[.string tk.text,.int .i64 tk.pos,.int .i64 0] 100));have e2:=((Ex.refl b w).alloc (.cells #[.string tk.text,.int .i64 tk.pos,.int .i64 0] 100));have n2:(w.alloc (.cells #[.string tk.text,.int .i64 tk.pos,.int .i64 0] 100)).heap[w.heap.size]?=some (.cells #[.string tk.text,.int .i64 tk.pos,.int .i64 0] 100 (0,0)):=Qb w _;have h6:w.heap.size≠b:=by have:=h.size;omega
 go_enter Tryz.func301,Tryz.ntmps301
 go_wp2_with fail
 refine(aB2 T g cap b n E r _ HE.out HG.out HO.out h2 hn hd).mono ?_;rintro e W3 ⟨t3,rfl,k1,it3,h3,e3⟩;have k3:Hid (er t3=(gR T E r).2):=k1;obtain⟨xa,xx,xy,h9,_,hxt⟩:=HO.out (r.opened T [16]);obtain⟨u3,p3,h1⟩:=aUJ (k3.out.trans h9) Oa;have k7:Hid (bCH t3= .iface u3 (.pointer (some p3))):=h1;rw[h1];clear h1 h9 k1;have n3:=(e3.block w.heap.size (Oo n2) h6).trans n2;have h4:=h3.alloc (.cells #[.int .i64 20] 141);have e4:=(Ex.refl b W3).alloc (.cells #[.int .i64 20] 141);have k4:=bM W3 [20] #[.int .i64 20] rfl;have n4:(W3.alloc (.cells #[.int .i64 20] 141)).heap[w.heap.size]?=_:=(On (Oo n3)).trans n3;go_wp2_with fail
 refine(fG T g cap b _ W3.heap.size 1 [20] _ h4 k4 Ob Ob).mono ?_;rintro e W5 ⟨rfl,h5,e5⟩;have n5:=(e5.block w.heap.size (Oo n4) h6).trans n4;have it5:=((it3.mono e2.size).ex h3 e4).ex h4 e5;have ee:=((e2.trans e3).trans e4).trans e5;obtain⟨m0,m1,m2⟩:=dO n5;have m0':W5.drew.cell? ⟨w.heap.size,0,none⟩=some (.string tk.text):=m0;have hf:Hid (lK T E tk r=((fM T E ((gR T E r).1.take T [20])).1,mk {tag:=10,name:=tk.text,npos:=tk.pos} (gR T E r).2 (fM T E ((gR T E r).1.take T [20])).2)):=rfl;clear h2 e2 n2 n3 n4 h4 e4 k4 it3;go_wp2_with fail
 go_region_held3 (fun w'=>w'.cell? ⟨w.heap.size,0,none⟩=some (.string tk.text)/\w'.cell? ⟨w.heap.size,1,none⟩=some (.int .i64 tk.pos)/\w'.cell? ⟨w.heap.size,2,none⟩=some (.int .i64 0))
  (first
    |(refine⟨?_,?_,?_⟩<;>assumption)
    |go_keep)
  ((refine eC rfl 300 #[.pointer (some ⟨b,0,none⟩)] _ (by go_simp) (bCZ T g cap b n E _ _ HE.out h5.drew k5) ?_;rintro e W7 ⟨t7,rfl,k0,it7,h7,e7⟩;refine⟨_,rfl,?_⟩;have k2:Hid (er t7=(fM T E ((gR T E r).1.take T [20])).2):=k0;clear k0;have n7:=(e7.block w.heap.size (Oo n5) h6).trans n5;have p0:=(dO n7).1;have p1:=(dO n7).2.1;have p2:=(dO n7).2.2;obtain⟨ya,yx,yy,h8,_,hyt⟩:=HO.out ((gR T E r).1.take T [20]);obtain⟨u7,p7,h0⟩:=aUJ (k2.out.trans h8) Oa;have k6:Hid (bCH t7= .iface u7 (.pointer (some p7))):=h0;rw[h0];clear h0 h8))
 go_wp2;go_ret;have it7':=(it5.ex h5 (Ex.refl b W5).drew).ex h5.drew e7;refine⟨.node W7.heap.size 0 {tag:=10,name:=tk.text,npos:=tk.pos} t3 t7,rfl,?_,New.node (it7'.ex h7 ((Ex.refl b W7).alloc _)) ((it7.mono ee.size).ex h7 ((Ex.refl b W7).alloc _)) (fun _=>(ee.drew.trans e7).size) Od ?_,by rw[hf.out];exact h7.alloc _,(ee.drew.trans e7).alloc _⟩
 ·rw[hf.out,<-k2.out,<-k3.out];rfl
 ·exact⟨_,Qb W7 _,⟨rfl,rfl,rfl⟩,by rw[k7.out];rfl,by rw[k6.out];rfl,rfl⟩
theorem RdW.setNew{T:List Tok}{g cap b:Nat}{r:Rd}{w:World}(h:RdW T g cap b r w){k:Nat}{c:Array Value}{t:TypeId}(hk:w.heap[k]?=some (.cells c t (0,0)))(h1:t≠145)(h2:t≠143)(o:Nat)(v:Value):
 RdW T g cap b r (w.setCell ⟨k,o,none⟩ v):=by
 refine h.setOther ?_ ?_ o v
 ·intro e;rw[e,h.blk]at hk;simp only[Option.some.injEq,Obj.cells.injEq]at hk;exact h1 hk.2.1.symm
 ·obtain⟨cur,hc,_⟩:=h.row;intro e;rw[e,hc]at hk;simp only[Option.some.injEq,Obj.cells.injEq]at hk;exact h2 hk.2.1.symm
theorem New.set{H k:Nat}{w:World}{t:Tr}(h:New H w t)(hk:dV k t)(o:Nat)(v:Value):New H (w.setCell ⟨k,o,none⟩ v) t:=h.but (fun _ _ h0=>Om h0) hk
theorem aSV(T:List Tok)(g cap b n:Nat)(C B:Pr)(r:Rd)(w:World)(hC:dI T g cap b 299 C (Dm T n 5))(y6:aZ T C)(k6:So 7 9 C)(hB:dI T g cap b 192 B (Dm T n 6))(y7:aZ T B)(k7:SoL B)(h:RdW T g cap b r w)(hd:Dm T n 6 r):
 Calls Tryz.prog 298 #[.pointer (some ⟨b,0,none⟩)] w (jL T g cap b w (ifP T C B r) cB):=by
 have HC:Hid (dI T g cap b 299 C (Dm T n 5)):=hC;have y9:Hid (So 7 9 C):=k6;have HB:Hid (dI T g cap b 192 B (Dm T n 6)):=hB;have y1:Hid (SoL B):=k7;have a1:=y6 r h.lt;have a2:=y7 _ a1.lt;have y5:Dm T n 5 r:=by obtain⟨x,y,z⟩:=hd;exact⟨Oa,y,z⟩
 have y4:Dm T n 6 (C r).1:=hd.adv a1;have a3:=dU h.ends a2.lt (show aQ [8] 0=false by decide);have y3:Dm T n 6 ((B (C r).1).1.skips T [8]):=hd.adv ((a1.trans a2).trans a3);clear hC k6 hB k7;go_enter Tryz.func298,Tryz.ntmps298
 go_wp2_with fail
 refine(HC.out r w h y5).mono ?_;rintro e W1 ⟨t1,rfl,k4,it1,h1,e1⟩;have h9:Hid (er t1=(C r).2):=k4;obtain⟨xa,xx,xy,k0,_,hxt⟩:=y9.out r;obtain⟨u1,p1,h7⟩:=aUJ (h9.out.trans k0) Oa;have k9:Hid (bCH t1= .iface u1 (.pointer (some p1))):=h7;rw[h7];clear h7 k0 k4;go_wp2_with fail
 refine(HB.out _ W1 h1 y4).mono ?_;rintro e W2 ⟨t2,rfl,k2,it2,h2,e2⟩;have h8:Hid (er t2=(B (C r).1).2):=k2;obtain⟨ao,ln,cq,h6⟩:=iZ (t:=t2) (by rw[h8.out];exact y1.out _);have k8:Hid (bCH t2= .slice ao ln cq):=h6;rw[h6];clear h6 k2;have it12:=it1.ex h1 e2;have s3:(W2.alloc (.cells #[.iface u1 (.pointer (some p1)),.slice ao ln cq,.slice none 0 0] 337)).heap.size=W2.heap.size+1:=Od
 have h3:=(h2.alloc (.cells #[.iface u1 (.pointer (some p1)),.slice ao ln cq,.slice none 0 0] 337)).alloc (.cells #[.int .i64 8] 141);have e3:=((Ex.refl b W2).alloc (.cells #[.iface u1 (.pointer (some p1)),.slice ao ln cq,.slice none 0 0] 337)).alloc (.cells #[.int .i64 8] 141);have k3:=bM (W2.alloc (.cells #[.iface u1 (.pointer (some p1)),.slice ao ln cq,.slice none 0 0] 337)) [8] #[.int .i64 8] rfl;rw[s3]at k3
 have n3:((W2.alloc (.cells #[.iface u1 (.pointer (some p1)),.slice ao ln cq,.slice none 0 0] 337)).alloc (.cells #[.int .i64 8] 141)).heap[W2.heap.size]?=some (.cells #[.iface u1 (.pointer (some p1)),.slice ao ln cq,.slice none 0 0] 337 (0,0)):=
  (On (by rw[s3];omega)).trans (Qb W2 _)
 have k5:W2.heap.size≠b:=by have:=h2.size;omega
 have o1:=it12.out (k:=W2.heap.size) Ol;have o2:=it2.out (k:=W2.heap.size) Ol;go_wp2_with fail
 refine(lL T g cap b _ (W2.heap.size+1) 1 [8] _ h3 k3 Ob Ob).mono ?_;rintro e W4 ⟨rfl,h4,e4⟩;have n4:=(e4.block W2.heap.size (Oo n3) k5).trans n3;have i14:=(it12.ex h2 e3).ex h3 e4;have i24:=(it2.ex h2 e3).ex h3 e4;have ee:=((e1.trans e2).trans e3).trans e4;have hH:w.heap.size<=W2.heap.size:=(e1.trans e2).size;clear k3 s3 h3 n3;cases hs:aN T (B (C r).1).1 [8]
 ·have y2:(B (C r).1).1.skips T [8]=(B (C r).1).1:=by unfold Rd.skips;rw[hs];rfl
  rw[y2]at h4;have hf:Hid (ifP T C B r=((B (C r).1).1,mk {tag:=11} (C r).2 (mk {tag:=18} (B (C r).1).2 .nil))):=by unfold Hid ifP;dsimp only;rw[hs];rfl
  go_wp2;go_ret;refine⟨.node W2.heap.size 0 {tag:=11} t1 (.node 0 0 {tag:=18} t2 .nil),rfl,?_,New.node i14 (New.node (i24.mono e1.size) (New.nil _ _) (fun p=>absurd rfl p.2.1) Od trivial) (fun _=>hH) Od ?_,by rw[hf.out];exact h4,ee⟩
  ·rw[hf.out,<-h9.out,<-h8.out];rfl
  ·exact⟨_,n4,by rw[k9.out];rfl,_,_,_,_,_,rfl,by rw[k8.out];rfl,rfl⟩
 ·have hf:Hid (ifP T C B r=((B ((B (C r).1).1.skips T [8])).1,mk {tag:=11} (C r).2 (mk {tag:=18} (B (C r).1).2 (B ((B (C r).1).1.skips T [8])).2))):=by unfold Hid ifP;dsimp only;rw[hs];rfl
  go_wp2_with fail
  refine(HB.out _ W4 h4 y3).mono ?_;rintro e W5 ⟨t5,rfl,k1,it5,h5,e5⟩;have y0:Hid (er t5=(B ((B (C r).1).1.skips T [8])).2):=k1;obtain⟨ao5,ln5,cq5,h0⟩:=iZ (t:=t5) (by rw[y0.out];exact y1.out _);have y8:Hid (bCH t5= .slice ao5 ln5 cq5):=h0;rw[h0];clear h0 k1;have n5:=(e5.block W2.heap.size (Oo n4) k5).trans n4;obtain⟨m0,m1,m2,mf⟩:=bCM n5;have mf2:=mf 2;have l4:W2.heap.size < W4.heap.size:=(Oo n4);have o5:=it5.fresh.notIn l4;go_wp2;go_ret;refine⟨.node W2.heap.size 0 {tag:=11} t1 (.node 0 0 {tag:=18} t2 t5),rfl,?_,New.node ((i14.ex h4 e5).set o1 _ _) (New.node (((i24.ex h4 e5).mono e1.size).set o2 _ _) ((it5.mono ee.size).set o5 _ _) (fun p=>absurd rfl p.2.1) Od trivial) (fun _=>hH) Od ?_,by rw[hf.out];exact h5.setNew n5 Ob Ob _ _,(ee.trans e5).setNew hH _ _⟩
  ·rw[hf.out,<-h9.out,<-h8.out,<-y0.out];rfl
  ·exact⟨_,aM _ n5,by rw[k9.out];rfl,_,_,_,_,_,rfl,by rw[k8.out];rfl,by rw[y8.out];rfl⟩
theorem Tryz.infoS:(Tryz.prog.info? 250).map (fun i=>(i.zero,i.size,i.bytes))=some (some .nilIface,1,16):=by kernel_rfl
theorem aTO{t:Tr}{a:Nd}{x y:Tr}(h:er t=mk a x y)(h1:9<=a.tag)(h2:a.tag < 15):cP t=[bCH t]/\bL (cons t .nil)=250/\∃ b o a l q,t= .node b o a l q/\(a.tag=19↔1=3):=by
 obtain⟨b,o,l,r,rfl,_,_⟩:=oI h;refine⟨?_,?_,b,o,a,l,r,rfl,⟨fun h=>Oa,fun h=>Oa⟩⟩
 ·show(if a.tag=19 then[Value.string a.name,.int .i64 a.npos,.int .i64 a.which]else if a.tag=7 then[cB (.node b o a l r)]else[bCH (.node b o a l r)])=_;rw[Oh,Oh]
 ·show(if a.tag=19 then _ else if a.tag=7 then _ else if a.tag < 7 then _ else if a.tag < 15 then _ else _)=_;rw[Oh,Oh,Oh,if_pos Oa]
theorem aJH{T:List Tok}{r:Rd}{ks:List Int}:aN T r ks=true\/(r.opened T ks).next=T.length - 1:=by
 cases hs:aN T r ks
 ·right;show((r.take T ks).deeper T.length (cN T r ks).pos).next=_;have h1:(r.take T ks).next=T.length - 1:=by unfold Rd.take;rw[hs];exact(lP _ _ _ _).1
  unfold Rd.deeper
  split
  ·exact(lP _ _ _ _).1
  ·exact h1
 ·exact .inl rfl
theorem eQ{w:World}{base n sz:Nat}{e:TypeId}{v:Value}{xs:List Value}(h:w.ownsRow base e sz v n xs):∃ ao cp,v= .slice ao n cp/\(n=0\/∃ g,ao=some ⟨g,0,none⟩):=by
 rcases h.2 with⟨rfl,rfl⟩|⟨g,cap,cur,rfl,_⟩
 ·exact⟨none,0,rfl,.inl rfl⟩
 ·exact⟨_,cap,rfl,.inr ⟨g,rfl⟩⟩
def aGZ(T:List Tok)(n:Nat)(S:Pr):Prop:=∀ r,Dm T n 7 r->r.next+1 < T.length->r.next+1<=(S r).1.next
theorem aKV(T:List Tok)(g cap b n:Nat)(S:Pr)(r:Rd)(w:World)(hS:dI T g cap b 246 S (Dm T n 7))(hG:aZ T S)(hO:So 9 15 S)(hA:aGZ T n S)(h:RdW T g cap b r w)(hd:Dm T (n+1) 6 r):
 Calls Tryz.prog 192 #[.pointer (some ⟨b,0,none⟩)] w (jL T g cap b w (qI T S n r) bCH):=by
 have HS:Hid (dI T g cap b 246 S (Dm T n 7)):=hS;have HG:Hid (aZ T S):=hG;have HO:Hid (So 9 15 S):=hO;have HA:Hid (aGZ T n S):=hA;clear hS hG hO hA;obtain⟨i0,g0,j6,j5,j4⟩:=info_parts Tryz.infoS;have h1:=h.alloc (.cells #[.int .i64 14] 141);have e1:=(Ex.refl b w).alloc (.cells #[.int .i64 14] 141);have k1:=bM w [14] #[.int .i64 14] rfl;obtain⟨o1,o2,o3⟩:=dF h.ends h.lt (show aQ [14] 0=false by decide);have hfew:=h.few;have k3:=h.ends;have z4:=h.lt
 have z9:∀ rc:Rd,(r.opened T [14]).next<=rc.next->rc.nest=(r.opened T [14]).nest->rc.next < T.length->aN T rc [15,0]=false->Dm T n 7 rc/\rc.next+1 < T.length:=by
  intro rc j0 h8 hl z0
  have k2:rc.next≠T.length - 1:=by
   intro e;unfold aN dD at z0;rw[e,k3]at z0;exact absurd z0 Ob
  rcases aJH (T:=T) (r:=r) (ks:=[14])with hs|hs
  ·have h2:=sR k3 z4 (show aQ [14] 0=false by decide) hs;obtain⟨x,y,z⟩:=hd;exact⟨⟨Oa,Oa,Oa⟩,Oa⟩
  ·omega
 have g2:Hid _:=z9;clear z9;go_enter Tryz.func192,Tryz.ntmps192
 go_wp2_with fail
 refine(uL T g cap b r w.heap.size 1 [14] _ h1 k1 Ob Ob hd.nest).mono ?_;rintro e W2 ⟨rfl,h2,e2⟩;have e12:=e1.trans e2;go_wp2_with fail
 go_loopg [3] n (fun m v wr=>∃ (rc:Rd) (acc:Tr),wr.ownsRow w.heap.size 250 1 v (aO acc) (cT acc)/\(acc= .nil->v= .slice none 0 0)/\(acc≠ .nil->bL acc=250)/\jZ 1 acc/\New w.heap.size wr acc/\(∀ k,v.ownBlock=some k->dV k acc)/\RdW T g cap b rc wr/\Ex b w wr/\
  (r.opened T [14]).next<=rc.next/\rc.nest=(r.opened T [14]).nest/\T.length - rc.next<=m+1/\aO acc<=rc.next/\
  app (er acc) (cL T S m rc).2=(cL T S n (r.opened T [14])).2/\(cL T S m rc).1=(cL T S n (r.opened T [14])).1)
 case atStart=>
  refine⟨_,.nil,World.ownsRow_nil _ _ _ _,fun _=>rfl,fun h=>absurd rfl h,trivial,New.nil _ _,fun k hk=>by simp[Value.ownBlock]at hk,h2,e12,Qc _,rfl,?_,Qe _,rfl,rfl⟩;obtain⟨x,y,z⟩:=hd;omega
 case round=>
  obtain⟨rc,acc,own,k9,z7,y5,iac,z1,hc,ec,j0,h8,hm,hlen,k7,k0⟩:=hrel;have HR:Hid (app (er acc) (cL T S gk rc).2=(cL T S n (r.opened T [14])).2):=k7;have y7:Hid ((cL T S gk rc).1=(cL T S n (r.opened T [14])).1):=k0;have h9:Hid (acc≠ .nil->bL acc=250):=z7;obtain⟨ao,cp,rfl,j2⟩:=eQ own;have k5:Hid (acc= .nil->(Value.slice ao (aO acc) cp)= .slice none 0 0):=k9;clear k7 k0 z7 k9;have y2:=hc.alloc (.cells #[.int .i64 15,.int .i64 0] 141);have e2:=(Ex.refl b wr).alloc (.cells #[.int .i64 15,.int .i64 0] 141);have ia2:=iac.ex hc e2;have own2:=own.alloc (.cells #[.int .i64 15,.int .i64 0] 141);have z8:=bM wr [15,0] #[.int .i64 15,.int .i64 0] rfl;go_wp2_with fail
  refine(gB T g cap b rc wr.heap.size 2 [15,0] _ y2 z8 Ob).mono ?_;rintro e W3 ⟨rfl,nn,rfl⟩;have k6:=y2.drewN nn;have ia3:=ia2.ex y2 ((Ex.refl b _).drewN nn);have own3:=gC own2 y2.blk Ob ((Ex.refl b _).drewN nn);have ec3:=(ec.trans e2).drewN nn;clear own2 ia2 z8 y2 e2;generalize ((wr.alloc (.cells #[.int .i64 15,.int .i64 0] 141)).drewN nn)=W3 at*;cases hs:aN T rc [15,0]
  ·obtain⟨j1,z3⟩:=g2.out rc j0 h8 hc.lt hs;go_wp2_with fail
   refine(HS.out _ _ k6 j1).mono ?_;rintro e W5 ⟨t5,rfl,z6,it5,h5,e5⟩;have y6:Hid (er t5=(S rc).2):=z6;obtain⟨ya,yx,yy,y8,j8,j7⟩:=HO.out rc;obtain⟨y1,k8,z2⟩:=aTO (y6.out.trans y8) j8 j7;obtain⟨u5,p5,y9⟩:=aUJ (y6.out.trans y8) Oa;have j3:Hid (bCH t5= .iface u5 (.pointer (some p5))):=y9;have z5:Hid (cP t5=[bCH t5]):=y1;have y4:Hid (bL (cons t5 .nil)=250):=k8;rw[y9];clear y9 y8 z6 y1 k8;obtain⟨m,rfl⟩:=Oj gk;have a5:=HG.out rc hc.lt;have hA5:=HA.out rc j1 z3;have own5:=gC own3 k6.blk Ob e5;have ia5:=ia3.ex k6 e5;have ec5:=ec3.trans e5;have hw5:=ec5.size;have hltS:=a5.lt;have hl4:aO acc<=5000:=Oa
   go_wp2_with (at_builtin;refine wpList_append_lies _ rfl _ _ 103 rfl w.heap.size 250 i0 _ 1 16 Tryz.underlying103 g0 j6 j5 j4 rfl Oa (.slice ao (aO acc) cp) (aO acc) (cT acc) rfl (own5.alloc _) ⟨W5.heap.size,0,none⟩ 1 1 [.iface u5 (.pointer (some p5))] rfl rfl (World.news_of_block (cs:=#[.iface u5 (.pointer (some p5))]) (t:=250) (fr:=(0,0)) (Qb W5 _)) (by simp[Value.oneCell']) Oa (by unfold maxLen;omega) Oa (by simp;omega) (W5.heap.size+1) Od ?_;intro g6 cp6 W6 own6 grow6 y3 hlt6)
   have e6:Ex b W5 (W5.alloc (.cells #[.iface u5 (.pointer (some p5))] 250)):=(Ex.refl b W5).alloc _;have h6:=h5.alloc (.cells #[.iface u5 (.pointer (some p5))] 250);have ia6:=ia5.ex h5 e6;have ib6:=it5.ex h5 e6
   have rne:∀ k,Value.ownBlock (.slice ao (aO acc) cp)=some k->k≠b/\k≠g:=by
    intro k hk;rcases(own5.alloc (.cells #[.iface u5 (.pointer (some p5))] 250)).2 with⟨hx,_⟩|⟨g',cap',cur,hv,_,hh,_⟩
    ·rw[hx]at hk;simp[Value.ownBlock]at hk
    ·rw[hv]at hk;simp only[Value.ownBlock,Option.some.injEq]at hk;subst hk;refine⟨fun e1=>?_,fun e1=>?_⟩
     ·rw[e1,h6.blk]at hh;simp at hh
     ·obtain⟨cur2,g1,_⟩:=h6.row;rw[e1,g1]at hh;simp at hh
   have h7:RdW T g cap b (S rc).1 W6:=h6.move (grow6.block b h6.size (fun e1=>(rne b e1.symm).1 rfl)) (grow6.block g h6.gsize (fun e1=>(rne g e1.symm).2 rfl));have e7:Ex b w W6:=Ex.grown (ec5.alloc _) grow6 (fun k hk=>(own.lt k hk).1);have k4:∀ k,(Value.slice ao (aO acc) cp).ownBlock=some k->k < W3.heap.size:=fun k hk=>(own3.lt k hk).2
   have ia7:New w.heap.size W6 acc:=by
    cases hob:(Value.slice ao (aO acc) cp).ownBlock with
    |none=>rw[hob]at grow6;exact ia6.but (k:=(W5.alloc (.cells #[.iface u5 (.pointer (some p5))] 250)).heap.size) (fun i hi _=>grow6.block i hi Od) (ia6.out Ol)
    |some k=>rw[hob]at grow6;exact ia6.but (k:=k) (fun i hi k2=>grow6.block i hi (fun e1=>k2 (Oq e1))) (z1 k hob)
   have ib7:New w.heap.size W6 t5:=by
    refine New.mono ?_ ec3.size;cases hob:(Value.slice ao (aO acc) cp).ownBlock with
    |none=>rw[hob]at grow6;exact ib6.but (k:=(W5.alloc (.cells #[.iface u5 (.pointer (some p5))] 250)).heap.size) (fun i hi _=>grow6.block i hi Od) (ib6.out Ol)
    |some k=>rw[hob]at grow6;exact ib6.but (k:=k) (fun i hi k2=>grow6.block i hi (fun e1=>k2 (Oq e1))) (ib6.fresh.notIn (k4 k hob))
   have nis:dV g6 (lD acc t5):=by
    rcases y3 with hx|hx
    ·exact fH (z1 g6 hx) (ib6.fresh.notIn (k4 g6 hx))
    ·subst hx;have hs5:(W5.alloc (.cells #[.iface u5 (.pointer (some p5))] 250)).heap.size=W5.heap.size+1:=Od
     exact fH (ia6.out Oa) (ib6.out Oa)
   have fin:∃ (rc:Rd) (acc':Tr),W6.ownsRow w.heap.size 250 1 (.slice (some ⟨g6,0,none⟩) (aO acc+1) cp6) (aO acc') (cT acc')/\(acc'= .nil->Value.slice (some ⟨g6,0,none⟩) (aO acc+1) cp6= .slice none 0 0)/\(acc'≠ .nil->bL acc'=250)/\jZ 1 acc'/\New w.heap.size W6 acc'/\
    (∀ k,(Value.slice (some ⟨g6,0,none⟩) (aO acc+1) cp6).ownBlock=some k->dV k acc')/\RdW T g cap b rc W6/\Ex b w W6/\(r.opened T [14]).next<=rc.next/\rc.nest=(r.opened T [14]).nest/\T.length - rc.next<=m+1/\aO acc'<=rc.next/\
    app (er acc') (cL T S m rc).2=(cL T S n (r.opened T [14])).2/\(cL T S m rc).1=(cL T S n (r.opened T [14])).1:=by
    have h3:cL T S (m+1) rc=((cL T S m (S rc).1).1,cons (S rc).2 (cL T S m (S rc).1).2):=by
     show(if _ then _ else _)=_;rw[if_neg (by rw[hs];decide)]
    have r1:=HR.out;have r2:=y7.out;rw[h3]at r1 r2;refine⟨(S rc).1,lD acc t5,?_,fun hx=>absurd hx (uG _ _),fun _=>?_,?_,New.snoc y5 ia7 ib7,?_,h7,e7,Oa,by rw[a5.nest];exact h8,Oa,?_,?_,r2⟩
    ·rw[iN,jT,z5.out,j3.out];exact own6
    ·cases hac:acc with
     |nil=>show bL (cons t5 .nil)=_;exact y4.out
     |node b1 o1 a1 x1 q1=>rw[<-hac,lZ (by rw[hac];intro h;cases h)];exact h9.out (by rw[hac];intro h;cases h)
    ·exact mY y5 z2 (by rw[z5.out];rfl)
    ·intro k hk;simp only[Value.ownBlock,Option.some.injEq]at hk;subst hk;exact nis
    ·rw[iN];omega
    ·rw[sE,pN,y6.out];exact r1
   clear HR y7 HS HG HO HA j3 z5 h9 y4 k5 y6 y3 ia7 ib7 nis ia6 ib6 ia5 ia3 it5 own6 own5 own3 own h7 e7 h6 e6 y5 iac z1 hc ec rne grow6 k4 j2;go_wp2;go_roundg m
   case rel=>exact fin
   case measure=>omega
  ·have y0:cL T S gk rc=(rc,.nil):=by
    cases gk with
    |zero=>rfl
    |succ gk=>show(if _ then _ else _)=_;rw[if_pos hs]
   have r1:=HR.out;have r2:=y7.out;rw[y0]at r1 r2;rw[vJ]at r1;have j9:0<=rc.nest/\rc.nest<=1000000:=by obtain⟨x,y,z⟩:=hd;omega
   have R1:Hid (er acc=(cL T S n (r.opened T [14])).2):=r1;have R2:Hid (rc=(cL T S n (r.opened T [14])).1):=r2;clear r1 r2 y0 HR y7;go_wp2_with fail
   refine(nC T g cap b rc 15 W3 k6 Ob j9).mono ?_;rintro e W4 ⟨rfl,h4,e4⟩;have own4:=gC own3 k6.blk Ob e4;have ia4:=ia3.ex k6 e4
   have fin:jL T g cap b w (qI T S n r) bCH (.returned (.slice ao (aO acc) cp)) W4:=by
    have h5:RdW T g cap b (qI T S n r).1 W4:=by
     show RdW T g cap b ((cL T S n (r.opened T [14])).1.shut T 15) W4;rw[<-R2.out];exact h4
    cases hac:acc with
    |nil=>
     refine⟨.nil,?_,?_,New.nil _ _,h5,ec3.trans e4⟩
     ·have:=k5.out hac;rw[hac]at this;rw[this];rfl
     ·show er .nil=gE (cL T S n (r.opened T [14])).2;rw[<-R1.out,hac];rfl
    |node b1 o1 a1 x1 q1=>
     have k2:acc≠ .nil:=by rw[hac];intro h;cases h
     rw[<-hac];rcases j2 with h0|⟨gg,rfl⟩
     ·have:=uO k2;omega
     refine⟨.node gg cp {tag:=20} acc .nil,rfl,?_,New.listed k2 y5 ia4 (by rw[h9.out k2];exact own4),h5,ec3.trans e4⟩;show er (.node gg cp {tag:=20} acc .nil)=gE (cL T S n (r.opened T [14])).2;rw[<-R1.out,hac];rfl
   clear R1 R2 h9 k5;go_wp2;go_ret;exact fin
theorem rO{t:Tr}{a:Nd}{x y:Tr}(h:er t=mk a x y)(ha:a.tag≠20):∃ p,cB t= .pointer (some p)/\bCH t= .iface (bZ a.tag) (.pointer (some p)):=by
 obtain⟨b,o,l,r,rfl,_,_⟩:=oI h;exact⟨⟨b,0,none⟩,rfl,if_neg ha⟩
theorem oQ{T:List Tok}{n:Nat}{r r':Rd}(h:Dm T (n+1) 7 r)(a:Adv T r r')(q:Nat)(hq:q<=6):Dm T n q r':=by
 obtain⟨h1,h2,h3⟩:=h;have:=a.ge;have:=a.nest;exact⟨Oa,Oa,Oa⟩
theorem aCH{T:List Tok}(he:cY T){n:Nat}{r r':Rd}(h:Dm T (n+1) 7 r)(a:Adv T r r'){ks:List Int}(h0:aQ ks 0=false)(q:Nat)(hq:q<=6):Dm T n q (r'.opened T ks):=by
 obtain⟨h1,h2,h3⟩:=h;have:=a.ge;have:=a.nest;obtain⟨o1,o2,o3⟩:=dF he a.lt h0;exact⟨Oa,Oa,Oa⟩
theorem aLT(T:List Tok)(g cap b n:Nat)(E C B:Pr)(r:Rd)(w:World)(hE:dI T g cap b 335 E (Dm T n 2))(z1:aZ T E)(y8:So 0 7 E)(hC:dI T g cap b 299 C (Dm T n 5))(z2:aZ T C)(y9:So 7 9 C)(hB:dI T g cap b 192 B (Dm T n 6))(z3:aZ T B)(z0:SoL B)(h:RdW T g cap b r w)(hd:Dm T (n+1) 7 r):
 Calls Tryz.prog 246 #[.pointer (some ⟨b,0,none⟩)] w (jL T g cap b w (eL T E C B r) bCH):=by
 have HE:Hid (dI T g cap b 335 E (Dm T n 2)):=hE;have z7:Hid (aZ T E):=z1;have y3:Hid (So 0 7 E):=y8;have HC:Hid (dI T g cap b 299 C (Dm T n 5)):=hC;have z8:Hid (aZ T C):=z2;have z5:Hid (So 7 9 C):=y9;have HB:Hid (dI T g cap b 192 B (Dm T n 6)):=hB;have j2:Hid (aZ T B):=z3;have z6:Hid (SoL B):=z0;clear hE z1 y8 hC z2 y9 hB z3 z0;have h1:=h.alloc (.cells #[.int .i64 6,.int .i64 1,.int .i64 7,.int .i64 9,.int .i64 10,.int .i64 11] 141);have e1:=(Ex.refl b w).alloc (.cells #[.int .i64 6,.int .i64 1,.int .i64 7,.int .i64 9,.int .i64 10,.int .i64 11] 141);have k1:=bM w aR #[.int .i64 6,.int .i64 1,.int .i64 7,.int .i64 9,.int .i64 10,.int .i64 11] rfl;go_enter Tryz.func246,Tryz.ntmps246
 go_wp2_with fail
 refine(fG T g cap b r w.heap.size 6 aR _ h1 k1 Ob Ob).mono ?_;rintro e W2 ⟨rfl,h2,e2⟩;have h0:=h.ends;have a2:=aP h.ends h.lt (show aQ aR 0=false by decide);generalize hq:cN T r aR=q at*;have HQ:Hid (cN T r aR=q):=hq;clear hq;rw[Tok.val_eq];have h3:=h2.alloc (.cells #[.int .i64 q.kind,.int .i64 q.pos,.string q.text,.int .i64 q.value] 143);have e3:=(e1.trans e2).alloc (.cells #[.int .i64 q.kind,.int .i64 q.pos,.string q.text,.int .i64 q.value] 143);have n3:(W2.alloc (.cells #[.int .i64 q.kind,.int .i64 q.pos,.string q.text,.int .i64 q.value] 143)).heap[W2.heap.size]?=some (.cells #[.int .i64 q.kind,.int .i64 q.pos,.string q.text,.int .i64 q.value] 143 (0,0)):=Qb W2 _;obtain⟨m0,m1,m2,m3,_⟩:=dG n3;have j0:0<=(r.take T aR).nest/\(r.take T aR).nest<=1000000:=by rw[a2.nest];exact hd.nest
 clear h1 e1 k1 h2 e2
 by_cases k6:q.kind=6
 ·have k6':(q.kind==6)=true:=by simpa using k6
  have hf:Hid (eL T E C B r=sQ T E (cN T (r.take T aR) [1]) true ((r.take T aR).take T [1])):=by unfold Hid eL;dsimp only;rw[HQ.out,if_pos k6]
  clear k6;go_wp2_with fail
  generalize W2.alloc (.cells #[.int .i64 q.kind,.int .i64 q.pos,.string q.text,.int .i64 q.value] 143)=W3 at*;refine(uM T g cap b _ W3 h3).mono ?_;rintro e W4 ⟨rfl,h4,e4⟩;have a4:=a2.trans (aP h0 a2.lt (show aQ [1] 0=false by decide));have a5:=a4.trans (aP h0 a4.lt (show aQ [20] 0=false by decide));go_wp2_with fail
  refine(aHG T g cap b n E (cN T (r.take T aR) [1]) true _ W4 HE.out y3.out h4 (oQ hd a5 2 Oa)).mono ?_;rintro e W7 ⟨t7,rfl,k0,it7,h7,e7⟩;have k3:Hid (er t7=(sQ T E (cN T (r.take T aR) [1]) true ((r.take T aR).take T [1])).2):=k0;clear k0;obtain⟨p7,k2,h8⟩:=rO k3.out Od;have y1:Hid (bCH t7= .iface 326 (.pointer (some p7))):=h8;rw[k2];clear k2 h8;go_wp2;go_ret;exact⟨t7,by rw[y1.out];rfl,by rw[hf.out];exact k3.out,it7.mono (e3.trans e4).size,by rw[hf.out];exact h7,(e3.trans e4).trans e7⟩
 have k6':(q.kind==6)=false:=by simpa using k6
 by_cases k7:q.kind=7
 ·have k7':(q.kind==7)=true:=by simpa using k7
  have hf:Hid (eL T E C B r=ifP T C B (r.take T aR)):=by unfold Hid eL;dsimp only;rw[HQ.out,if_neg k6,if_pos k7]
  clear k6 k7;go_wp2_with fail
  generalize W2.alloc (.cells #[.int .i64 q.kind,.int .i64 q.pos,.string q.text,.int .i64 q.value] 143)=W3 at*;refine(aSV T g cap b n C B _ W3 HC.out z8.out z5.out HB.out j2.out z6.out h3 (oQ hd a2 6 Oa)).mono ?_;rintro e W7 ⟨t7,rfl,k0,it7,h7,e7⟩;have k3:Hid (er t7=(ifP T C B (r.take T aR)).2):=k0;clear k0;obtain⟨zp,zx,zy,hz,z9⟩:∃ zp zx zy,(ifP T C B (r.take T aR)).2=mk zp zx zy/\zp.tag=11:=by unfold ifP;dsimp only;split<;>exact⟨_,_,_,rfl,rfl⟩
  obtain⟨p7,k2,h8⟩:=rO (k3.out.trans hz) Oa;rw[z9]at h8;have y1:Hid (bCH t7= .iface 332 (.pointer (some p7))):=h8;rw[k2];clear k2 h8 hz;go_wp2;go_ret;exact⟨t7,by rw[y1.out];rfl,by rw[hf.out];exact k3.out,it7.mono e3.size,by rw[hf.out];exact h7,e3.trans e7⟩
 have k7':(q.kind==7)=false:=by simpa using k7
 by_cases k9:q.kind=9
 ·have k9':(q.kind==9)=true:=by simpa using k9
  have hf:Hid (eL T E C B r=((B (C (r.take T aR)).1).1,mk {tag:=12} (C (r.take T aR)).2 (B (C (r.take T aR)).1).2)):=by unfold Hid eL;dsimp only;rw[HQ.out,if_neg k6,if_neg k7,if_pos k9]
  clear k6 k7 k9;go_wp2_with fail
  generalize W2.alloc (.cells #[.int .i64 q.kind,.int .i64 q.pos,.string q.text,.int .i64 q.value] 143)=W3 at*;refine(HC.out _ W3 h3 (oQ hd a2 5 Oa)).mono ?_;rintro e W4 ⟨t4,rfl,y6,it4,h4,e4⟩;have z4:Hid (er t4=(C (r.take T aR)).2):=y6;obtain⟨xa,xx,xy,k5,_,y5⟩:=z5.out (r.take T aR);obtain⟨u4,p4,y4⟩:=aUJ (z4.out.trans k5) Oa;have j1:Hid (bCH t4= .iface u4 (.pointer (some p4))):=y4;rw[y4];clear y4 k5 y6;have a4:=a2.trans (z8.out _ a2.lt);go_wp2_with fail
  refine(HB.out _ W4 h4 (oQ hd a4 6 Oa)).mono ?_;rintro e W5 ⟨t5,rfl,k8,it5,h5,e5⟩;have y0:Hid (er t5=(B (C (r.take T aR)).1).2):=k8;obtain⟨ao,ln,cq,h9⟩:=iZ (t:=t5) (by rw[y0.out];exact z6.out _);have y2:Hid (bCH t5= .slice ao ln cq):=h9;rw[h9];clear h9 k8;go_wp2;go_ret;have ee:=(e3.trans e4).trans e5;refine⟨.node W5.heap.size 0 {tag:=12} t4 t5,rfl,?_,New.node (((it4.mono e3.size).ex h4 e5).ex h5 ((Ex.refl b W5).alloc _)) ((it5.mono (e3.trans e4).size).ex h5 ((Ex.refl b W5).alloc _)) (fun _=>ee.size) Od ?_,by rw[hf.out];exact h5.alloc _,ee.alloc _⟩
  ·rw[hf.out,<-z4.out,<-y0.out];rfl
  ·exact⟨_,Qb W5 _,by rw[j1.out];rfl,by rw[y2.out];rfl⟩
 have k9':(q.kind==9)=false:=by simpa using k9
 by_cases k10:q.kind=10
 ·have k10':(q.kind==10)=true:=by simpa using k10
  have hf:Hid (eL T E C B r=((fM T E (r.take T aR)).1,mk {tag:=13} (fM T E (r.take T aR)).2 .nil)):=by unfold Hid eL;dsimp only;rw[HQ.out,if_neg k6,if_neg k7,if_neg k9,if_pos k10]
  clear k6 k7 k9 k10;go_wp2_with fail
  generalize W2.alloc (.cells #[.int .i64 q.kind,.int .i64 q.pos,.string q.text,.int .i64 q.value] 143)=W3 at*;refine(bCZ T g cap b n E _ W3 HE.out h3 (oQ hd a2 2 Oa)).mono ?_;rintro e W5 ⟨t5,rfl,k8,it5,h5,e5⟩;have y0:Hid (er t5=(fM T E (r.take T aR)).2):=k8;obtain⟨xa,xx,xy,k5,_,y5⟩:=y3.out (r.take T aR);obtain⟨u5,p5,h9⟩:=aUJ (y0.out.trans k5) Oa;have y2:Hid (bCH t5= .iface u5 (.pointer (some p5))):=h9;rw[h9];clear h9 k5 k8;go_wp2;go_ret;have ee:=e3.trans e5;refine⟨.node W5.heap.size 0 {tag:=13} t5 .nil,rfl,?_,New.node ((it5.mono e3.size).ex h5 ((Ex.refl b W5).alloc _)) (New.nil _ _) (fun _=>ee.size) Od ?_,by rw[hf.out];exact h5.alloc _,ee.alloc _⟩
  ·rw[hf.out,<-y0.out];rfl
  ·exact⟨_,Qb W5 _,by rw[y2.out];rfl⟩
 have k10':(q.kind==10)=false:=by simpa using k10
 by_cases k11:q.kind=11
 ·have k11':(q.kind==11)=true:=by simpa using k11
  have hf:Hid (eL T E C B r=((fM T E (r.take T aR)).1,mk {tag:=14} (fM T E (r.take T aR)).2 .nil)):=by unfold Hid eL;dsimp only;rw[HQ.out,if_neg k6,if_neg k7,if_neg k9,if_neg k10,if_pos k11]
  clear k6 k7 k9 k10 k11;go_wp2_with fail
  generalize W2.alloc (.cells #[.int .i64 q.kind,.int .i64 q.pos,.string q.text,.int .i64 q.value] 143)=W3 at*;refine(bCZ T g cap b n E _ W3 HE.out h3 (oQ hd a2 2 Oa)).mono ?_;rintro e W5 ⟨t5,rfl,k8,it5,h5,e5⟩;have y0:Hid (er t5=(fM T E (r.take T aR)).2):=k8;obtain⟨xa,xx,xy,k5,_,y5⟩:=y3.out (r.take T aR);obtain⟨u5,p5,h9⟩:=aUJ (y0.out.trans k5) Oa;have y2:Hid (bCH t5= .iface u5 (.pointer (some p5))):=h9;rw[h9];clear h9 k5 k8;go_wp2;go_ret;have ee:=e3.trans e5;refine⟨.node W5.heap.size 0 {tag:=14} t5 .nil,rfl,?_,New.node ((it5.mono e3.size).ex h5 ((Ex.refl b W5).alloc _)) (New.nil _ _) (fun _=>ee.size) Od ?_,by rw[hf.out];exact h5.alloc _,ee.alloc _⟩
  ·rw[hf.out,<-y0.out];rfl
  ·exact⟨_,Qb W5 _,by rw[y2.out];rfl⟩
 have k11':(q.kind==11)=false:=by simpa using k11
 have y7:Hid (eL T E C B r=if aN T (r.take T aR) [16]then lK T E q (r.take T aR)else sQ T E q false (r.take T aR)):=by unfold Hid eL;dsimp only;rw[HQ.out,if_neg k6,if_neg k7,if_neg k9,if_neg k10,if_neg k11]
 clear k6 k7 k9 k10 k11;have s3:(W2.alloc (.cells #[.int .i64 q.kind,.int .i64 q.pos,.string q.text,.int .i64 q.value] 143)).heap.size=W2.heap.size+1:=Od
 have k4:=bM (W2.alloc (.cells #[.int .i64 q.kind,.int .i64 q.pos,.string q.text,.int .i64 q.value] 143)) [16] #[.int .i64 16] rfl;rw[s3]at k4;have h4:=h3.alloc (.cells #[.int .i64 16] 141);have e4:=e3.alloc (.cells #[.int .i64 16] 141);have n4:((W2.alloc (.cells #[.int .i64 q.kind,.int .i64 q.pos,.string q.text,.int .i64 q.value] 143)).alloc (.cells #[.int .i64 16] 141)).heap[W2.heap.size]?=_:=(On (by rw[s3];omega)).trans n3;go_wp2_with fail
 refine(gB T g cap b _ (W2.heap.size+1) 1 [16] _ h4 k4 Ob).mono ?_;rintro e w' ⟨rfl,nn,rfl⟩;have h5:=h4.drewN nn;have e5:=e4.drewN nn;have n5:(((W2.alloc (.cells #[.int .i64 q.kind,.int .i64 q.pos,.string q.text,.int .i64 q.value] 143)).alloc (.cells #[.int .i64 16] 141)).drewN nn).heap[W2.heap.size]?=_:=n4;clear m0 m1 m2 m3 h3 e3 n3 k4 h4 e4 n4 s3;generalize (((W2.alloc (.cells #[.int .i64 q.kind,.int .i64 q.pos,.string q.text,.int .i64 q.value] 143)).alloc (.cells #[.int .i64 16] 141)).drewN nn)=W5 at*;obtain⟨m0,m1,m2,m3,_⟩:=dG n5;cases hs:aN T (r.take T aR) [16]
 ·have hf:Hid (eL T E C B r=sQ T E q false (r.take T aR)):=by unfold Hid;rw[y7.out,hs];rfl
  go_wp2_with fail
  refine(bCR q W5).mono ?_;rintro e W6 ⟨rfl,b6⟩;have h6:=h5.below b6;have e6:=e5.trans (Ex.of_below (b:=b) b6);have a5:=a2.trans (aP h0 a2.lt (show aQ [20] 0=false by decide));go_wp2_with fail
  refine(aHG T g cap b n E q false _ W6 HE.out y3.out h6 (oQ hd a5 2 Oa)).mono ?_;rintro e W7 ⟨t7,rfl,k0,it7,h7,e7⟩;have k3:Hid (er t7=(sQ T E q false (r.take T aR)).2):=k0;clear k0;obtain⟨p7,k2,h8⟩:=rO k3.out Od;have y1:Hid (bCH t7= .iface 326 (.pointer (some p7))):=h8;rw[k2];clear k2 h8;go_wp2;go_ret;exact⟨t7,by rw[y1.out];rfl,by rw[hf.out];exact k3.out,it7.mono (e6).size,by rw[hf.out];exact h7,(e6).trans e7⟩
 ·have hf:Hid (eL T E C B r=lK T E q (r.take T aR)):=by unfold Hid;rw[y7.out,hs];rfl
  go_wp2_with fail
  refine(bCR q W5).mono ?_;rintro e W6 ⟨rfl,b6⟩;have h6:=h5.below b6;have e6:=e5.trans (Ex.of_below (b:=b) b6);have a5:=a2.trans (lN h0 z7.out _ a2.lt);have a6:=a5.trans (aP h0 a5.lt (show aQ [20] 0=false by decide));go_wp2_with fail
  refine(aIU T g cap b n E q _ W6 HE.out z7.out y3.out h6 j0 (aCH h0 hd a2 Ob 2 Oa) (oQ hd a6 2 Oa)).mono ?_;rintro e W7 ⟨t7,rfl,k0,it7,h7,e7⟩;have k3:Hid (er t7=(lK T E q (r.take T aR)).2):=k0;clear k0;obtain⟨p7,k2,h8⟩:=rO k3.out Od;have y1:Hid (bCH t7= .iface 329 (.pointer (some p7))):=h8;rw[k2];clear k2 h8;go_wp2;go_ret;exact⟨t7,by rw[y1.out];rfl,by rw[hf.out];exact k3.out,it7.mono (e6).size,by rw[hf.out];exact h7,(e6).trans e7⟩
end Go.Proofs.YtikffmloeifkpaaGreatDoor
