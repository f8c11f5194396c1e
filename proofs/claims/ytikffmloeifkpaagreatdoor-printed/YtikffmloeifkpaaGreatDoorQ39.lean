/- Contracts. -/
import Derived.Test.YtikffmloeifkpaaGreatDoorQ37
import Derived.Test.YtikffmloeifkpaaGreatDoorQ36
import Derived.Test.YtikffmloeifkpaaGreatDoorQ38
set_option maxHeartbeats 16000000
set_option maxRecDepth 100000
namespace Go.Proofs.YtikffmloeifkpaaGreatDoor
section
open Go.RowKit Go.Lib Go.Deep Go.Maps Go.ChangeMaps Go.MapKept
variable {w0:World} {pb lb kb vb xb:Nat} {vS:Value} {S:Sl} {F F':Fl} {alive:Bool} {vs:Vr} {u w w':World} {m:Bool} {al fl:List Tr}
theorem aE{w0 w:World}(h:∀ i,i < w0.heap.size->w.heap[i]?=w0.heap[i]?){p:Addr}{v:Value}(hc:w0.cell? p=some v):w.cell? p=some v:=
 (Qf (h _ (Qg w0 _ hc))).trans hc
structure VC(w0:World)(pb lb vb xb:Nat)(vS:Value)(S:Sl)(F:Fl)(alive:Bool)(vs:Vr)(w:World):Prop where
 vw:VwW w0.heap.size lb pb vb xb vS S F alive vs w
 low:∀ i,i < w0.heap.size->w.heap[i]?=w0.heap[i]?
 ok:∀ i,bV (vs i)
theorem VC.size(h:VC w0 pb lb vb xb vS S F alive vs w):w0.heap.size<=w.heap.size:=h.vw.size
theorem VC.next(h:VC w0 pb lb vb xb vS S F alive vs w)(hx:Fs w0.heap.size false w w')(hf:FlW w0.heap.size vS S F' w'):VC w0 pb lb vb xb vS S F' alive vs w':=by
 obtain⟨km,nv,hl⟩:=h.vw.look;exact⟨⟨hx.keep h.vw.view Ob Oy Oy,⟨km,nv,hx.keep hl Ob Oy Oy⟩,h.vw.vars.fs hx,hf,Qd h.vw.size hx.size⟩,fun i hi=>(hx.low i hi).trans (h.low i hi),h.ok⟩
theorem FlW.new(h:FlW w0.heap.size vS S F w)(hx:∀ i,i < w.heap.size->w'.heap[i]?=w.heap[i]?):FlW w0.heap.size vS S F w':=h.same fun k _ hk=>hx k (Oo hk)
theorem VC.new(h:VC w0 pb lb vb xb vS S F alive vs w)(hx:Below w.heap.size w w'):VC w0 pb lb vb xb vS S F alive vs w':=h.next (Fs.of hx h.size false) (h.vw.fl.new hx.block)
theorem VC.drew(h:VC w0 pb lb vb xb vS S F alive vs w):VC w0 pb lb vb xb vS S F alive vs w.drew:=h.next (Fs.refl _ _ _).drew (h.vw.fl.same fun _ _ _=>rfl)
theorem VC.drewN(h:VC w0 pb lb vb xb vS S F alive vs w)(n:Nat):VC w0 pb lb vb xb vS S F alive vs (w.drewN n):=h.next ((Fs.refl _ _ _).drewN n) (h.vw.fl.same fun _ _ _=>rfl)
theorem Fs.setNew{H:Nat}(h:Fs H m u w)(hH:H<=u.heap.size){k:Nat}(hk:u.heap.size<=k)(o:Nat)(x:Value):Fs H m u (w.setCell ⟨k,o,none⟩ x):=by
 refine⟨h.os,h.tape,h.output,by have:=h.size;simp[World.setCell];omega,fun i hi=>(Om (by show i≠k;omega)).trans (h.low i hi),fun i ob hi hm=>?_⟩;have:=(Oo hi);exact(Om (by show i≠k;omega)).trans (h.oth i ob hi hm)
theorem FlW.setOther(h:FlW w0.heap.size vS S F w){k:Nat}{cs:Array Value}{t:TypeId}{fr:Nat × Nat}(hk:w.heap[k]?=some (.cells cs t fr))(ht:t≠55)(o:Nat)(x:Value):FlW w0.heap.size vS S F (w.setCell ⟨k,o,none⟩ x):=by
 refine h.same fun i cur hi=>Om ?_;rintro(rfl:i=k);rw[hk]at hi;simp only[Option.some.injEq,Obj.cells.injEq]at hi;exact ht hi.2.1
def xI(H:Nat)(vS:Value)(S:Sl)(r:Rg)(F':Fl)(w:World):Ending->World->Prop:=fun e w'=>e= .returned (rgV r)/\FlW H vS S F' w'/\Fs H false w w'
def GV(f:Nat)(w0:World)(pb:Nat)(vS:Value)(S:Sl)(al fl:List Tr)(val:Tr->Value)(t:Tr):Prop:=
 ∀ lb vb xb F alive vs w,VC w0 pb lb vb xb vS S F alive vs w->Calls Tryz.prog f #[.pointer (some ⟨vb,0,none⟩),val t] w (xI w0.heap.size vS S (hdR (exA (bCG al) fl alive vs t F).1) (exA (bCG al) fl alive vs t F).2 w)
theorem qN(w:World)(x:Obj):(w.alloc x).heap[w.heap.size]?=some x/\Below w.heap.size w (w.alloc x)/\(w.alloc x).heap.size=w.heap.size+1:=⟨Qb w x,(Below.refl _ _).alloc Ol _,Od⟩
theorem aI1(hp:PgX pb al fl w0)(x:ByteArray)(np:Int)(k:Nat)(hk:k < al.length)(l:Tr)(h5:Ws 0 l)(hl:GV 260 w0 pb vS S al fl bCH l)(s:Nat)(hs:s < S.length)(h:VC w0 pb lb vb xb vS S F alive vs w):
 Calls Tryz.prog 268 #[.pointer (some ⟨vb,0,none⟩),.agg #[.string x,.int .i64 np,.int .i64 (k:Int)],bCH l,.int .i64 (s:Int)] w fun e w'=>e= .returned (.tuple #[])/\
  FlW w0.heap.size vS S (iD (exA (bCG al) fl alive vs l F).2 s ((decide (0<=(hdR (exA (bCG al) fl alive vs l F).1).1)&&decide ((hdR (exA (bCG al) fl alive vs l F).1).2 < bCG al k))||!alive)) w'/\Fs w0.heap.size false w w':=by
 obtain⟨g,cp,b,q1,q2,q3,q4,q5⟩:=hp.at hk;obtain⟨u0,p0,h6⟩:=h5.val Ox;obtain⟨o0,h2⟩:∃ o0:Obj,o0= .cells #[.string x,.int .i64 np,.int .i64 (k:Int)] 100:=⟨_,rfl⟩;obtain⟨kA,bA,zA⟩:=qN w o0;have VA:=h.new bA;have h0:=hl lb vb xb F alive vs _ VA;rw[h6]at h0 ⊢;have FA:Hid (Fs w0.heap.size false w (w.alloc o0)):=Fs.of bA h.size false;have HV:Hid (VC w0 pb lb vb xb vS S F alive vs (w.alloc o0)):=VA;have KA:Hid ((w.alloc o0).heap[w.heap.size]?=some (.cells #[.string x,.int .i64 np,.int .i64 (k:Int)] 100 (0,0))):=by rw[h2]at kA ⊢;exact kA
 generalize exA (bCG al) fl alive vs l F=y at*;obtain⟨yl,F2⟩:=y;dsimp only at*;generalize hdR yl=R at*;have hkI:0<=(k:Int)/\(k:Int) < (al.length:Int):=Oa
 generalize bCG al k=n at*;obtain⟨D,hD⟩:∃ D,D=(decide (0<=R.1)&&decide (R.2 < n)):=⟨_,rfl⟩;rw[<-hD];have HD:Hid (D=(decide (0<=R.1)&&decide (R.2 < n))):=hD;clear VA bA h hl hp kA hD;go_enter Tryz.func268,Tryz.ntmps268
 go_upto_region 1 with fail
 rw[<-h2];clear h2;generalize w.alloc o0=wA at*;go_wp2_with fail
 refine h0.mono ?_;rintro e W ⟨rfl,f2,x2⟩;have V2:=HV.out.next x2 f2;have k2:=x2.keep KA.out Ob Oy Oy;obtain⟨o1,h1⟩:∃ o1:Obj,o1= .cells #[.int .i64 R.1,.int .i64 R.2] 259:=⟨_,rfl⟩;obtain⟨kB,bB,zB⟩:=qN W o1;have V3:=V2.new bB;have k3:=(Fs.of bB V2.size false).keep k2 Ob Oy Oy;have F3:Hid (Fs w0.heap.size false w (W.alloc o1)):=(FA.out.trans x2).trans (Fs.of bB V2.size false);have h3:Hid (VC w0 pb lb vb xb vS S F2 alive vs (W.alloc o1)):=V3;have KB:(W.alloc o1).heap[W.heap.size]?=some (.cells #[.int .i64 R.1,.int .i64 R.2] 259 (0,0)):=by rw[h1]at kB ⊢;exact kB
 obtain⟨r0,r1,rf⟩:=aH KB;obtain⟨_,_,nm2,_⟩:=aG k3;obtain⟨v0,v1,v2,_⟩:=aG V3.vw.view;obtain⟨km,nv,h4⟩:=V3.vw.look;obtain⟨l0,_,_,_,_⟩:=cO h4;have c1:=aE V3.low q1;have c2:=aE V3.low q2;have c3:=aE V3.low q3;rw[aS];clear V2 V3 k2 k3 bB kB f2 x2 h0 KA FA HV h4 q1 q2 q3 KB;go_upto_region 2 with fail
 rw[<-h1];clear h1;generalize W.alloc o1=W1 at*;go_quiet (fail)
 by_cases t1:0<=R.1
 ·by_cases t2:R.2 < n
  ·have hd:Hid (D=true):=HD.out.trans (by simp[t1,t2]);have ht:=bFM (h3.out.drewN nq).vw s hs true;go_wp2_with fail
   refine ht.mono ?_;rintro e W4 ⟨rfl,f4,x4⟩
   have H4:Hid (FlW w0.heap.size vS S (iD F2 s (D||!alive)) W4):=by
    rw[hd.out];exact f4
   have X4:Hid (Fs w0.heap.size false w W4):=(F3.out.drewN nq).trans x4;clear f4 x4 ht;go_wp2;go_end0
   exact⟨rfl,H4.out,X4.out⟩
  ·have hd:Hid (D=false):=HD.out.trans (by simp[t2]);have ht:=bFM (h3.out.drewN nq).vw s hs false;go_wp2_with fail
   refine ht.mono ?_;rintro e W4 ⟨rfl,f4,x4⟩
   have H4:Hid (FlW w0.heap.size vS S (iD F2 s (D||!alive)) W4):=by
    rw[hd.out];exact f4
   have X4:Hid (Fs w0.heap.size false w W4):=(F3.out.drewN nq).trans x4;clear f4 x4 ht;go_wp2;go_end0
   exact⟨rfl,H4.out,X4.out⟩
 ·have hd:Hid (D=false):=HD.out.trans (by simp[t1]);have ht:=bFM (h3.out.drewN nq).vw s hs false;go_wp2_with fail
  refine ht.mono ?_;rintro e W4 ⟨rfl,f4,x4⟩
  have H4:Hid (FlW w0.heap.size vS S (iD F2 s (D||!alive)) W4):=by
   rw[hd.out];exact f4
  have X4:Hid (Fs w0.heap.size false w W4):=(F3.out.drewN nq).trans x4;clear f4 x4 ht;go_wp2;go_end0
  exact⟨rfl,H4.out,X4.out⟩
end
section
open Go.RowKit Go.Lib Go.Deep Go.Maps Go.ChangeMaps Go.MapKept
variable {w0:World} {pb lb kb vb xb:Nat} {vS:Value} {S:Sl} {F F':Fl} {alive:Bool} {vs:Vr} {u w w':World} {m:Bool} {al fl:List Tr}
theorem aOU{b o:Nat}{a:Nd}{l q:Tr}(ht:a.tag=6)(y9:27<=a.op/\a.op<=31)(hi:IsT w0 (.node b o a l q))(hl:Ws 0 l/\GV 260 w0 pb vS S al fl bCH l)(hq:Ws 0 q/\GV 260 w0 pb vS S al fl bCH q)(hs:30<=a.op->∃ s:Nat,a.site=s/\s < S.length):GV 309 w0 pb vS S al fl cB (.node b o a l q):=by
 intro lb vb xb F alive vs w h;obtain⟨y2,y6⟩:=hl;obtain⟨y1,y5⟩:=hq;obtain⟨u1,p1,y4⟩:=y2.val Ox;obtain⟨u2,p2,y3⟩:=y1.val Ox;obtain⟨m0,_,m2,m3⟩:=oG hi.2.2 ht;have m4:=uI hi.2.2 ht;rw[y4]at m2;rw[y3]at m3;obtain⟨o0,k9⟩:∃ o0:Obj,o0= .cells #[.int .i64 0,.int .i64 0] 259:=⟨_,rfl⟩;obtain⟨kA,bA,zA⟩:=qN w o0;have VA:=h.new bA;have h4:=y6 lb vb xb F alive vs _ VA;rw[y4]at h4;have okl:=(wK (lens:=bCG al) (fl:=fl) (alive:=alive) h.ok l 0 F y2).hd;have okq:=(wK (lens:=bCG al) (fl:=fl) (alive:=alive) h.ok q 0 (exA (bCG al) fl alive vs l F).2 y1).hd;have FA:Hid (Fs w0.heap.size false w (w.alloc o0)):=Fs.of bA h.size false;have HV:Hid (VC w0 pb lb vb xb vS S F alive vs (w.alloc o0)):=VA;have KA:Hid ((w.alloc o0).heap[w.heap.size]?=some (.cells #[.int .i64 0,.int .i64 0] 259 (0,0))):=by rw[k9]at kA ⊢;exact kA
 have z3:Hid (∀ w2,VC w0 pb lb vb xb vS S (exA (bCG al) fl alive vs l F).2 alive vs w2->Calls Tryz.prog 260 #[.pointer (some ⟨vb,0,none⟩),.iface u2 (.pointer (some p2))] w2 (xI w0.heap.size vS S (hdR (exA (bCG al) fl alive vs q (exA (bCG al) fl alive vs l F).2).1) (exA (bCG al) fl alive vs q (exA (bCG al) fl alive vs l F).2).2 w2)):=fun w2 h2=>by
  have:=y5 lb vb xb _ alive vs w2 h2;rw[y3]at this;exact this
 have c2:=aE VA.low m2;have h0:w0.heap.size<=w.heap.size:=h.size;have E27:=fun ho=>tR (lens:=bCG al) (fl:=fl) (b:=b) (o:=o) (l:=l) (q:=q) (alive:=alive) (vs:=vs) (F:=F) ht (ho:a.op=27);have E28:=fun ho=>tS (lens:=bCG al) (fl:=fl) (b:=b) (o:=o) (l:=l) (q:=q) (alive:=alive) (vs:=vs) (F:=F) ht (ho:a.op=28);have E29:=fun ho=>tQ (lens:=bCG al) (fl:=fl) (b:=b) (o:=o) (l:=l) (q:=q) (alive:=alive) (vs:=vs) (F:=F) ht (ho:a.op=29);have E30:=fun ho=>qH (lens:=bCG al) (fl:=fl) (b:=b) (o:=o) (l:=l) (q:=q) (alive:=alive) (vs:=vs) (F:=F) ht (ho:a.op≠27/\a.op≠28/\a.op≠29);show Calls Tryz.prog 309 #[.pointer (some ⟨vb,0,none⟩),.pointer (some ⟨b,0,none⟩)] w _;clear VA bA h y6 y5 kA hi;generalize exA (bCG al) fl alive vs (.node b o a l q) F=X at*;generalize exA (bCG al) fl alive vs q (exA (bCG al) fl alive vs l F).2=y at*;generalize exA (bCG al) fl alive vs l F=x at*;obtain⟨xl,F2⟩:=x;obtain⟨yl,F3⟩:=y;dsimp only at*;generalize hdR xl=R at*;generalize hdR yl=T at*;have HT:Hid (T.1<=T.2):=okq.le;have y0:Hid _:=m0;have z2:Hid _:=m3;have k0:Hid _:=m4;generalize hopn:a.op=op at*;have h8:op=27\/op=28\/op=29\/op=30\/op=31:=Oa
 clear y9 okl okq m2;go_enter Tryz.func309,Tryz.ntmps309
 go_upto_region 1 with fail
 rw[<-k9];clear k9;generalize w.alloc o0=wA at*;go_wp2_with fail
 refine h4.mono ?_;rintro e W ⟨rfl,f2,x2⟩;have V2:=HV.out.next x2 f2;have k2:=x2.keep KA.out Ob Oy Oy;obtain⟨o1,k8⟩:∃ o1:Obj,o1= .cells #[.int .i64 R.1,.int .i64 R.2] 259:=⟨_,rfl⟩;obtain⟨kB,bB,zB⟩:=qN W o1;have V3:=V2.new bB;have k3:=(Fs.of bB V2.size false).keep k2 Ob Oy Oy;have F3':Hid (Fs w0.heap.size false w (W.alloc o1)):=(FA.out.trans x2).trans (Fs.of bB V2.size false);have y7:Hid (VC w0 pb lb vb xb vS S F2 alive vs (W.alloc o1)):=V3;have KR3:Hid ((W.alloc o1).heap[w.heap.size]?=some (.cells #[.int .i64 0,.int .i64 0] 259 (0,0))):=k3;have KL3:Hid ((W.alloc o1).heap[W.heap.size]?=some (.cells #[.int .i64 R.1,.int .i64 R.2] 259 (0,0))):=by rw[k8]at kB ⊢;exact kB
 have h3:=z3.out _ V3;have c3:=aE V3.low z2.out;rw[aS];clear V2 V3 k2 k3 bB kB f2 x2 h4 KA FA HV c2;go_upto_region 2 with fail
 rw[<-k8];clear k8;generalize W.alloc o1=W1 at*;go_wp2_with fail
 refine h3.mono ?_;rintro e V ⟨rfl,f4,x4⟩;have V4:=y7.out.next x4 f4;have k4:=x4.keep KR3.out Ob Oy Oy;have l4:=x4.keep KL3.out Ob Oy Oy;obtain⟨o2,k7⟩:∃ o2:Obj,o2= .cells #[.int .i64 T.1,.int .i64 T.2] 259:=⟨_,rfl⟩;obtain⟨kC,bC,zC⟩:=qN V o2;have V5:=V4.new bC;have k5:=(Fs.of bC V4.size false).keep k4 Ob Oy Oy;have l5:=(Fs.of bC V4.size false).keep l4 Ob Oy Oy;have F5:Hid (Fs w0.heap.size false w (V.alloc o2)):=(F3'.out.trans x4).trans (Fs.of bC V4.size false);have h1:Hid (VC w0 pb lb vb xb vS S F3 alive vs (V.alloc o2)):=V5;have KR5:Hid ((V.alloc o2).heap[w.heap.size]?=some (.cells #[.int .i64 0,.int .i64 0] 259 (0,0))):=k5;have KL5:Hid ((V.alloc o2).heap[W.heap.size]?=some (.cells #[.int .i64 R.1,.int .i64 R.2] 259 (0,0))):=l5;have KT5:Hid ((V.alloc o2).heap[V.heap.size]?=some (.cells #[.int .i64 T.1,.int .i64 T.2] 259 (0,0))):=by rw[k7]at kC ⊢;exact kC
 have d0:=aE V5.low y0.out;have d4:=aE V5.low k0.out;obtain⟨r0,r1,rf⟩:=aH KL5.out;obtain⟨t0,t1,tf⟩:=aH KT5.out;rw[aS];clear V4 V5 k4 l4 k5 l5 bC kC f4 x4 h3 F3' y7 KR3 KL3 c3;go_upto_region 3 with fail
 rw[<-k7];clear k7;generalize V.alloc o2=W3 at*;rcases h8 with rfl|rfl|rfl|rfl|rfl
 ·have HX:Hid (X=([kH R T],F3)):=E27 rfl;clear E27 E28 E29 E30 hs;go_wp2_with fail
  refine(aSG R T _).mono ?_;rintro e Z ⟨rfl,gz⟩;have fz:Fs w0.heap.size false W3 Z:=Fs.of gz h1.out.size false;have kz:=fz.keep KR5.out Ob Oy Oy;obtain⟨z0,z1,zf⟩:=aH kz
  have h7:Hid (FlW w0.heap.size vS S X.2 ((Z.setCell ⟨w.heap.size,0,none⟩ (.int .i64 (kH R T).1)).setCell ⟨w.heap.size,1,none⟩ (.int .i64 (kH R T).2))):=by
   rw[HX.out];exact((h1.out.next fz (h1.out.vw.fl.new gz.block)).vw.fl.setOther kz Ob _ _).setOther (aM _ kz) Ob _ _
  have h6:Hid (Fs w0.heap.size false w ((Z.setCell ⟨w.heap.size,0,none⟩ (.int .i64 (kH R T).1)).setCell ⟨w.heap.size,1,none⟩ (.int .i64 (kH R T).2))):=((F5.out.trans fz).setNew h0 Ol _ _).setNew h0 Ol _ _;obtain⟨x0,x1⟩:=dQ (w:=Z) (u0:= .int .i64 (kH R T).1) (u1:= .int .i64 (kH R T).2) z0 z1;rw[aS];clear fz gz kz;go_wp2;refine bodyPost_ret (v:=rgV (kH R T)) (by simp[results,Tryz.results309,go_sem,aS,x0,x1]) rfl ?_;refine⟨?_,h7.out,h6.out⟩;rw[HX.out];rfl
 ·have HX:Hid (X=([gX R T],F3)):=E28 rfl;clear E27 E28 E29 E30 hs;go_wp2_with fail
  refine(aQI R T _).mono ?_;rintro e Z ⟨rfl,gz⟩;have fz:Fs w0.heap.size false W3 Z:=Fs.of gz h1.out.size false;have kz:=fz.keep KR5.out Ob Oy Oy;obtain⟨z0,z1,zf⟩:=aH kz
  have h7:Hid (FlW w0.heap.size vS S X.2 ((Z.setCell ⟨w.heap.size,0,none⟩ (.int .i64 (gX R T).1)).setCell ⟨w.heap.size,1,none⟩ (.int .i64 (gX R T).2))):=by
   rw[HX.out];exact((h1.out.next fz (h1.out.vw.fl.new gz.block)).vw.fl.setOther kz Ob _ _).setOther (aM _ kz) Ob _ _
  have h6:Hid (Fs w0.heap.size false w ((Z.setCell ⟨w.heap.size,0,none⟩ (.int .i64 (gX R T).1)).setCell ⟨w.heap.size,1,none⟩ (.int .i64 (gX R T).2))):=((F5.out.trans fz).setNew h0 Ol _ _).setNew h0 Ol _ _;obtain⟨x0,x1⟩:=dQ (w:=Z) (u0:= .int .i64 (gX R T).1) (u1:= .int .i64 (gX R T).2) z0 z1;rw[aS];clear fz gz kz;go_wp2;refine bodyPost_ret (v:=rgV (gX R T)) (by simp[results,Tryz.results309,go_sem,aS,x0,x1]) rfl ?_;refine⟨?_,h7.out,h6.out⟩;rw[HX.out];rfl
 ·have HX:Hid (X=([gW R T],F3)):=E29 rfl;clear E27 E28 E29 E30 hs;go_wp2_with fail
  refine(aPJ R T _).mono ?_;rintro e Z ⟨rfl,gz⟩;have fz:Fs w0.heap.size false W3 Z:=Fs.of gz h1.out.size false;have kz:=fz.keep KR5.out Ob Oy Oy;obtain⟨z0,z1,zf⟩:=aH kz
  have h7:Hid (FlW w0.heap.size vS S X.2 ((Z.setCell ⟨w.heap.size,0,none⟩ (.int .i64 (gW R T).1)).setCell ⟨w.heap.size,1,none⟩ (.int .i64 (gW R T).2))):=by
   rw[HX.out];exact((h1.out.next fz (h1.out.vw.fl.new gz.block)).vw.fl.setOther kz Ob _ _).setOther (aM _ kz) Ob _ _
  have h6:Hid (Fs w0.heap.size false w ((Z.setCell ⟨w.heap.size,0,none⟩ (.int .i64 (gW R T).1)).setCell ⟨w.heap.size,1,none⟩ (.int .i64 (gW R T).2))):=((F5.out.trans fz).setNew h0 Ol _ _).setNew h0 Ol _ _;obtain⟨x0,x1⟩:=dQ (w:=Z) (u0:= .int .i64 (gW R T).1) (u1:= .int .i64 (gW R T).2) z0 z1;rw[aS];clear fz gz kz;go_wp2;refine bodyPost_ret (v:=rgV (gW R T)) (by simp[results,Tryz.results309,go_sem,aS,x0,x1]) rfl ?_;refine⟨?_,h7.out,h6.out⟩;rw[HX.out];rfl
 ·obtain⟨s,h5,k6⟩:=hs Oa
  have HX:Hid (X=([iQ R T],iD F3 s (!jD T 0||!alive))):=by
   rw[Hid,E30 Oa,h5];rfl
  rw[h5]at k0;rw[h5]at d4;have y8:0<=(s:Int)/\(s:Int) < (S.length:Int):=Oa
  clear E27 E28 E29 E30 hs h5;go_wp2_with fail
  have k1:=h1.out.size
  go_region_held3 (fun w'=>w'.cell? ⟨b,4,none⟩=some (.int .i64 (s:Int))/\w'.cell? ⟨V.heap.size,0,none⟩=some (.int .i64 T.1)/\w'.cell? ⟨V.heap.size,1,none⟩=some (.int .i64 T.2))
   (first
     |(refine⟨?_,?_,?_⟩<;>assumption)
     |go_keep)
   (first
     |(go_at_call 338;refine(aEE T 0 _).mono ?_;rintro e Wa ⟨rfl,ha⟩;have fa:Fs w0.heap.size false W3.drew Wa:=Fs.of ha k1 false;have va:=h1.out.drew.next fa (h1.out.drew.vw.fl.new ha.block);have kt:=fa.keep KT5.out Ob Oy Oy;obtain⟨t0',t1',_⟩:=aH kt;have d4':=aE va.low k0.out)
     |(go_at_call 311;refine(bFM va.vw s k6 (!jD T 0)).mono ?_;rintro e Wb ⟨rfl,fb,xb'⟩;have vb':=va.next xb' fb;have kt':=xb'.keep kt Ob Oy Oy;obtain⟨t0'',t1'',_⟩:=aH kt';have d4'':=aE vb'.low k0.out))
  have h9:Hid (VC w0 pb lb vb xb vS S (iD F3 s (!jD T 0||!alive)) alive vs Wb):=vb';have F6:Hid (Fs w0.heap.size false w Wb):=(F5.out.drew.trans fa).trans xb';have KR6:Hid (Wb.heap[w.heap.size]?=some (.cells #[.int .i64 0,.int .i64 0] 259 (0,0))):=xb'.keep (fa.keep KR5.out Ob Oy Oy) Ob Oy Oy;have KL6:Hid (Wb.heap[W.heap.size]?=some (.cells #[.int .i64 R.1,.int .i64 R.2] 259 (0,0))):=xb'.keep (fa.keep KL5.out Ob Oy Oy) Ob Oy Oy;have KT6:Hid (Wb.heap[V.heap.size]?=some (.cells #[.int .i64 T.1,.int .i64 T.2] 259 (0,0))):=kt';have e0:=aE vb'.low y0.out;clear vb' kt' xb' fb va kt fa ha t0' t1' d4' t0'' t1'' d4'' d0 d4 r0 r1 rf t0 t1 tf F5 h1 KR5 KL5 KT5;obtain⟨r0,r1,rf⟩:=aH KL6.out;obtain⟨t0,t1,tf⟩:=aH KT6.out;go_wp2_with fail
  refine(aSJ R T _ HT.out).mono ?_;rintro e Z ⟨rfl,gz⟩;have fz:Fs w0.heap.size false Wb Z:=Fs.of gz h9.out.size false;have kz:=fz.keep KR6.out Ob Oy Oy;obtain⟨z0,z1,zf⟩:=aH kz
  have h7:Hid (FlW w0.heap.size vS S X.2 ((Z.setCell ⟨w.heap.size,0,none⟩ (.int .i64 (iQ R T).1)).setCell ⟨w.heap.size,1,none⟩ (.int .i64 (iQ R T).2))):=by
   rw[HX.out];exact((h9.out.next fz (h9.out.vw.fl.new gz.block)).vw.fl.setOther kz Ob _ _).setOther (aM _ kz) Ob _ _
  have h6:Hid (Fs w0.heap.size false w ((Z.setCell ⟨w.heap.size,0,none⟩ (.int .i64 (iQ R T).1)).setCell ⟨w.heap.size,1,none⟩ (.int .i64 (iQ R T).2))):=((F6.out.trans fz).setNew h0 Ol _ _).setNew h0 Ol _ _;obtain⟨x0,x1⟩:=dQ (w:=Z) (u0:= .int .i64 (iQ R T).1) (u1:= .int .i64 (iQ R T).2) z0 z1;rw[aS];clear fz gz kz;go_wp2;refine bodyPost_ret (v:=rgV (iQ R T)) (by simp[results,Tryz.results309,go_sem,aS,x0,x1]) rfl ?_;refine⟨?_,h7.out,h6.out⟩;rw[HX.out];rfl
 ·obtain⟨s,h5,k6⟩:=hs Oa
  have HX:Hid (X=([iO R T],iD F3 s (!jD T 0||!alive))):=by
   rw[Hid,E30 Oa,h5];rfl
  rw[h5]at k0;rw[h5]at d4;have y8:0<=(s:Int)/\(s:Int) < (S.length:Int):=Oa
  clear E27 E28 E29 E30 hs h5;go_wp2_with fail
  have k1:=h1.out.size
  go_region_held3 (fun w'=>w'.cell? ⟨b,4,none⟩=some (.int .i64 (s:Int))/\w'.cell? ⟨V.heap.size,0,none⟩=some (.int .i64 T.1)/\w'.cell? ⟨V.heap.size,1,none⟩=some (.int .i64 T.2))
   (first
     |(refine⟨?_,?_,?_⟩<;>assumption)
     |go_keep)
   (first
     |(go_at_call 338;refine(aEE T 0 _).mono ?_;rintro e Wa ⟨rfl,ha⟩;have fa:Fs w0.heap.size false W3.drew Wa:=Fs.of ha k1 false;have va:=h1.out.drew.next fa (h1.out.drew.vw.fl.new ha.block);have kt:=fa.keep KT5.out Ob Oy Oy;obtain⟨t0',t1',_⟩:=aH kt;have d4':=aE va.low k0.out)
     |(go_at_call 311;refine(bFM va.vw s k6 (!jD T 0)).mono ?_;rintro e Wb ⟨rfl,fb,xb'⟩;have vb':=va.next xb' fb;have kt':=xb'.keep kt Ob Oy Oy;obtain⟨t0'',t1'',_⟩:=aH kt';have d4'':=aE vb'.low k0.out))
  have h9:Hid (VC w0 pb lb vb xb vS S (iD F3 s (!jD T 0||!alive)) alive vs Wb):=vb';have F6:Hid (Fs w0.heap.size false w Wb):=(F5.out.drew.trans fa).trans xb';have KR6:Hid (Wb.heap[w.heap.size]?=some (.cells #[.int .i64 0,.int .i64 0] 259 (0,0))):=xb'.keep (fa.keep KR5.out Ob Oy Oy) Ob Oy Oy;have KL6:Hid (Wb.heap[W.heap.size]?=some (.cells #[.int .i64 R.1,.int .i64 R.2] 259 (0,0))):=xb'.keep (fa.keep KL5.out Ob Oy Oy) Ob Oy Oy;have KT6:Hid (Wb.heap[V.heap.size]?=some (.cells #[.int .i64 T.1,.int .i64 T.2] 259 (0,0))):=kt';have e0:=aE vb'.low y0.out;clear vb' kt' xb' fb va kt fa ha t0' t1' d4' t0'' t1'' d4'' d0 d4 r0 r1 rf t0 t1 tf F5 h1 KR5 KL5 KT5;obtain⟨r0,r1,rf⟩:=aH KL6.out;obtain⟨t0,t1,tf⟩:=aH KT6.out;go_wp2_with fail
  refine(aSF R T _).mono ?_;rintro e Z ⟨rfl,gz⟩;have fz:Fs w0.heap.size false Wb Z:=Fs.of gz h9.out.size false;have kz:=fz.keep KR6.out Ob Oy Oy;obtain⟨z0,z1,zf⟩:=aH kz
  have h7:Hid (FlW w0.heap.size vS S X.2 ((Z.setCell ⟨w.heap.size,0,none⟩ (.int .i64 (iO R T).1)).setCell ⟨w.heap.size,1,none⟩ (.int .i64 (iO R T).2))):=by
   rw[HX.out];exact((h9.out.next fz (h9.out.vw.fl.new gz.block)).vw.fl.setOther kz Ob _ _).setOther (aM _ kz) Ob _ _
  have h6:Hid (Fs w0.heap.size false w ((Z.setCell ⟨w.heap.size,0,none⟩ (.int .i64 (iO R T).1)).setCell ⟨w.heap.size,1,none⟩ (.int .i64 (iO R T).2))):=((F6.out.trans fz).setNew h0 Ol _ _).setNew h0 Ol _ _;obtain⟨x0,x1⟩:=dQ (w:=Z) (u0:= .int .i64 (iO R T).1) (u1:= .int .i64 (iO R T).2) z0 z1;rw[aS];clear fz gz kz;go_wp2;refine bodyPost_ret (v:=rgV (iO R T)) (by simp[results,Tryz.results309,go_sem,aS,x0,x1]) rfl ?_;refine⟨?_,h7.out,h6.out⟩;rw[HX.out];rfl
end
section
open Go.RowKit Go.Lib Go.Deep Go.Maps Go.ChangeMaps Go.MapKept
variable {w0:World} {pb lb kb vb xb:Nat} {vS:Value} {S:Sl} {F F':Fl} {alive:Bool} {vs:Vr} {u w w':World} {m:Bool} {al fl:List Tr}
def GVn(f:Nat)(w0:World)(pb:Nat)(vS:Value)(S:Sl)(al fl:List Tr)(val:Tr->Value)(t:Tr):Prop:=
 ∀ lb vb xb F alive vs w,VC w0 pb lb vb xb vS S F alive vs w->Calls Tryz.prog f #[.pointer (some ⟨vb,0,none⟩),val t] w fun e w'=>e= .returned (.tuple #[])/\FlW w0.heap.size vS S (exA (bCG al) fl alive vs t F).2 w'/\Fs w0.heap.size false w w'
theorem yM{k:Nat}{Z:World}(h:FlW w0.heap.size vS S F Z)(hx:Fs w0.heap.size false w Z)(hl:w0.heap.size<=w.heap.size)(hk:w.heap.size<=k){x y x' y':Value}(kz:Z.heap[k]?=some (.cells #[x,y] 259 (0,0))):
 FlW w0.heap.size vS S F ((Z.setCell ⟨k,0,none⟩ x').setCell ⟨k,1,none⟩ y')/\Fs w0.heap.size false w ((Z.setCell ⟨k,0,none⟩ x').setCell ⟨k,1,none⟩ y')/\
  ((Z.setCell ⟨k,0,none⟩ x').setCell ⟨k,1,none⟩ y').cell? ⟨k,0,none⟩=some x'/\((Z.setCell ⟨k,0,none⟩ x').setCell ⟨k,1,none⟩ y').cell? ⟨k,1,none⟩=some y':=by
 obtain⟨z0,z1,zf⟩:=aH kz;obtain⟨x0,x1⟩:=dQ (w:=Z) (u0:=x') (u1:=y') z0 z1;exact⟨(h.setOther kz Ob _ _).setOther (aM _ kz) Ob _ _,(hx.setNew hl hk _ _).setNew hl hk _ _,x0,x1⟩
theorem aO2(hp:PgX pb al fl w0){b o:Nat}{a:Nd}{l q:Tr}(hw:Ws 0 (.node b o a l q))(hi:IsT w0 (.node b o a l q))(hv:a.tag=1->0<=a.which/\a.which < 12)(hl:a.tag=2\/a.tag=4\/a.tag=5->Ws 0 l/\GV 260 w0 pb vS S al fl bCH l)(h2:a.tag=2->(∃ k:Nat,a.which=k/\k < al.length)/\∃ s:Nat,a.site=s/\s < S.length)(h3:a.tag=3->GVn 307 w0 pb vS S al fl cB (.node b o a l q))(h6:a.tag=6->GV 309 w0 pb vS S al fl cB (.node b o a l q)):
 GV 260 w0 pb vS S al fl bCH (.node b o a l q):=by
 intro lb vb xb F alive vs w h;obtain⟨hoka,sx,sy,y6,z2,y9⟩:=hw.parts
 have ht:a.tag < 7:=by
  rcases Qk a.tag 7 with h|h
  ·exact h
  ·exfalso;unfold sig at y6;rw[if_pos rfl]at y6;rw[Oh,Oh,Oh,Oh,Oh]at y6;cases y6
 have h8:=hi.2.2;have z5:bCH (.node b o a l q)= .iface (bZ a.tag) (.pointer (some ⟨b,0,none⟩)):=Oh;rw[z5];clear z5 y6;obtain⟨o0,y3⟩:∃ o0:Obj,o0= .cells #[.int .i64 0,.int .i64 0] 259:=⟨_,rfl⟩;obtain⟨kA,bA,zA⟩:=qN w o0;have VA:=h.new bA;have FA:Hid (Fs w0.heap.size false w (w.alloc o0)):=Fs.of bA h.size false;have HV:Hid (VC w0 pb lb vb xb vS S F alive vs (w.alloc o0)):=VA;have KA:Hid ((w.alloc o0).heap[w.heap.size]?=some (.cells #[.int .i64 0,.int .i64 0] 259 (0,0))):=by rw[y3]at kA ⊢;exact kA
 have y4:w0.heap.size<=w.heap.size:=h.size;have lowc:=fun {p:Addr} {v:Value} (hc:w0.cell? p=some v)=>aE VA.low hc;have t0:=fun u v=>aAO u v (w.alloc o0);have t1:=fun u v=>oD u v (w.alloc o0);have t2:=fun u v=>pT u v (w.alloc o0);have t3:=fun u v=>xL u v (w.alloc o0);have t4:=fun u v=>mX u v (w.alloc o0);have t5:=fun u v=>rP u v (w.alloc o0);have t6:=fun u v=>rQ u v (w.alloc o0)
 by_cases k0:a.tag=0
 ·have hX:=aBA (lens:=bCG al) (fl:=fl) (b:=b) (o:=o) (l:=l) (q:=q) (alive:=alive) (vs:=vs) (F:=F) k0
  have m0:w0.cell? ⟨b,0,none⟩=some (.int .i64 a.val):=by
   obtain⟨cs,hc,h0⟩:=aI h8 (n:=0) k0;rw[cell_of_row _ _ _ _ _ _ hc];exact h0
  have c0:=lowc m0;rw[show bZ a.tag=362 by rw[k0];rfl];generalize exA (bCG al) fl alive vs (.node b o a l q) F=X at*;have y8:Hid (X=([cQ a.val],F)):=hX;clear VA bA kA h lowc hi hw z2 y9 h8 hl h2 h3 h6 hv hp;clear hX ht k0;go_enter Tryz.func260,Tryz.ntmps260
  go_upto_region 1 with fail
  rw[<-y3];clear y3;generalize w.alloc o0=wA at*;go_wp2_with fail
  refine(aHR _ _).mono ?_;rintro e Z ⟨rfl,gz⟩;have fz:Fs w0.heap.size false wA Z:=Fs.of gz HV.out.size false;have kz:=fz.keep KA.out Ob Oy Oy;have y2:=HV.out.vw.fl.new gz.block;have k9:=FA.out.trans fz;clear fz gz;obtain⟨k7,h9,x0,x1⟩:=yM (w:=w) (x':= .int .i64 (cQ a.val).1) (y':= .int .i64 (cQ a.val).2) y2 k9 y4 Ol kz;have h7:Hid _:=k7;have h5:Hid _:=h9;have HE:Hid (X=([cQ a.val],F)):=y8;clear k7 h9 y2 k9;obtain⟨z0,z1,zf⟩:=aH kz;clear kz;rw[aS];go_wp2;refine bodyPost_ret (v:=rgV (cQ a.val)) (by simp[results,Tryz.results260,go_sem,aS,x0,x1]) rfl ?_;exact⟨by rw[HE.out];rfl,by rw[HE.out];exact h7.out,h5.out⟩
 by_cases k1:a.tag=1
 ·have hX:=aB9 (lens:=bCG al) (fl:=fl) (b:=b) (o:=o) (l:=l) (q:=q) (alive:=alive) (vs:=vs) (F:=F) k1;obtain⟨z9,z8⟩:=hv k1;obtain⟨j,hj⟩:∃ j:Nat,a.which=j:=⟨a.which.toNat,Oa⟩
  have m0:w0.cell? ⟨b,2,none⟩=some (.int .i64 (j:Int)):=by
   obtain⟨cs,hc,hn⟩:=aI h8 (n:=1) k1;rw[cell_of_row _ _ _ _ _ _ hc,<-hj];exact hn.2.2
  have c0:=lowc m0;obtain⟨v0,v1,v2,_⟩:=aG VA.vw.view;obtain⟨r1,r2⟩:=VA.vw.vars.cells.1 j Oa;have hjI:0<=(j:Int)/\(j:Int) < 12:=Oa
  rw[hj,Int.toNat_natCast]at hX;rw[show bZ a.tag=359 by rw[k1];rfl];generalize exA (bCG al) fl alive vs (.node b o a l q) F=X at*;generalize vs j=V at*;have y8:Hid (X=([V],F)):=hX
  have hn1:vb≠w.heap.size:=fun e=>by
   have:=(Oo h.vw.view);omega
  have z7:b≠w.heap.size:=fun e=>by
   have:=Qg _ _ m0;simp at this;omega
  have hn3:xb≠w.heap.size:=fun e=>by
   obtain⟨cs,hc,_⟩:=h.vw.vars;have:=(Oo hc);omega
  clear VA bA kA h lowc hi hw z2 y9 h8 hl h2 h3 h6 hv hp;clear hX ht k0 k1 z9 z8 hj m0;go_enter Tryz.func260,Tryz.ntmps260
  go_upto_region 1 with fail
  rw[<-y3];clear y3;generalize w.alloc o0=wA at*;go_upto_region 7 with fail
  have kz:=KA.out;obtain⟨z0,z1,zf⟩:=aH kz;obtain⟨k7,h9,x0,x1⟩:=yM (w:=w) (x':= .int .i64 V.1) (y':= .int .i64 V.2) HV.out.vw.fl FA.out y4 Ol kz;have y0:(((wA.setCell ⟨w.heap.size,0,none⟩ (.int .i64 V.1)).setCell ⟨w.heap.size,1,none⟩ (.int .i64 V.2)).drew).cell? ⟨w.heap.size,0,none⟩=some (.int .i64 V.1):=x0;have y1:(((wA.setCell ⟨w.heap.size,0,none⟩ (.int .i64 V.1)).setCell ⟨w.heap.size,1,none⟩ (.int .i64 V.2)).drew).cell? ⟨w.heap.size,1,none⟩=some (.int .i64 V.2):=x1;have h7:Hid (FlW w0.heap.size vS S F (((wA.setCell ⟨w.heap.size,0,none⟩ (.int .i64 V.1)).setCell ⟨w.heap.size,1,none⟩ (.int .i64 V.2)).drew)):=k7.same fun _ _ _=>rfl;have h5:Hid (Fs w0.heap.size false w (((wA.setCell ⟨w.heap.size,0,none⟩ (.int .i64 V.1)).setCell ⟨w.heap.size,1,none⟩ (.int .i64 V.2)).drew)):=h9.drew;clear k7 h9 x0 x1 kz;go_region
  all_goals go_wp2
  all_goals
   refine bodyPost_ret (v:=rgV V) (by simp[results,Tryz.results260,go_sem,aS,y0,y1]) rfl ?_;exact⟨by rw[y8.out];rfl,by rw[y8.out];exact h7.out,h5.out⟩
 by_cases k2:a.tag=2
 ·obtain⟨⟨k,hk,j1⟩,s,hs,j0⟩:=h2 k2;obtain⟨y5,z4⟩:=hl (.inl k2);obtain⟨u,p,z3⟩:=y5.val Ox;have hX:=zT (lens:=bCG al) (fl:=fl) (b:=b) (o:=o) (l:=l) (q:=q) (alive:=alive) (vs:=vs) (F:=F) k2
  have mm:w0.cell? ⟨b,0,none⟩=some (.string a.name)/\w0.cell? ⟨b,1,none⟩=some (.int .i64 a.npos)/\w0.cell? ⟨b,2,none⟩=some (.int .i64 (k:Int))/\w0.cell? ⟨b,3,none⟩=some (bCH l)/\w0.cell? ⟨b,4,none⟩=some (.int .i64 (s:Int)):=by
   obtain⟨cs,hc,hn,h3,h4⟩:=aI h8 (n:=2) k2;have z7:cs[2]?=some (.int .i64 (k:Int)):=by rw[<-hk];exact hn.2.2
   rw[<-hs];exact⟨Og hc hn.1,Og hc hn.2.1,Og hc z7,Og hc h3,Og hc h4⟩
  have c0:=lowc mm.1;have c1:=lowc mm.2.1;have c2:=lowc mm.2.2.1;have c3:=lowc mm.2.2.2.1;have c4:=lowc mm.2.2.2.2;have h1:=aI1 (lb:=lb) (vb:=vb) (xb:=xb) (F:=F) (alive:=alive) (vs:=vs) (w:=(w.alloc o0).drew) hp a.name a.npos k j1 l y5 z4 s j0 VA.drew;rw[z3]at c3 h1;rw[hk,hs,Int.toNat_natCast]at hX;rw[show bZ a.tag=393 by rw[k2];rfl];generalize exA (bCG al) fl alive vs (.node b o a l q) F=X at*;have z6:X.2=_:=congrArg Prod.snd hX;dsimp only at z6;rw[<-z6]at h1;have y8:Hid (X=([bEE],X.2)):=by rw[z6];exact hX
  rw[z3]at mm;have mm0:Hid _:=mm.1;have mm1:Hid _:=mm.2.1;have mm2:Hid _:=mm.2.2.1;have mm3:Hid _:=mm.2.2.2.1;have mm4:Hid _:=mm.2.2.2.2;clear VA bA kA h lowc hi hw z2 y9 h8 hl h2 h3 h6 hv hp;clear hX z6 ht k0 k1 k2 hk hs mm z4 y5 z3;go_enter Tryz.func260,Tryz.ntmps260
  go_upto_region 1 with fail
  rw[<-y3];clear y3;generalize w.alloc o0=wA at*;go_upto_region 10 with fail
  go_region_held3 (fun w'=>w'.cell? ⟨b,0,none⟩=some (.string a.name)/\w'.cell? ⟨b,1,none⟩=some (.int .i64 a.npos)/\w'.cell? ⟨b,2,none⟩=some (.int .i64 k)/\w'.cell? ⟨b,3,none⟩=some (.iface u (.pointer (some p)))/\w'.cell? ⟨b,4,none⟩=some (.int .i64 (s:Int)))
   (first
     |(refine⟨?_,?_,?_,?_,?_⟩<;>assumption)
     |go_keep)
   ((go_at_call 268;refine h1.mono ?_;rintro e W ⟨rfl,f2,x2⟩;have d0:=aE (HV.out.drew.next x2 f2).low mm0.out;have d1:=aE (HV.out.drew.next x2 f2).low mm1.out;have d2:=aE (HV.out.drew.next x2 f2).low mm2.out;have d3:=aE (HV.out.drew.next x2 f2).low mm3.out;have d4:=aE (HV.out.drew.next x2 f2).low mm4.out))
  have y7:Hid (VC w0 pb lb vb xb vS S X.2 alive vs W):=HV.out.drew.next x2 f2;have KR2:Hid (W.heap[w.heap.size]?=some (.cells #[.int .i64 0,.int .i64 0] 259 (0,0))):=x2.keep (w:=wA.drew) KA.out Ob Oy Oy;have F2:Hid (Fs w0.heap.size false w W):=FA.out.drew.trans x2;clear f2 x2 HV KA FA h1 d0 d1 d2 d3 d4 c0 c1 c2 c3 c4 mm0 mm1 mm2 mm3 mm4;go_wp2_with fail
  refine(rK _).mono ?_;rintro e Z ⟨rfl,gz⟩;have fz:Fs w0.heap.size false W Z:=Fs.of gz y7.out.size false;have kz:=fz.keep KR2.out Ob Oy Oy;have y2:=y7.out.vw.fl.new gz.block;have k9:=F2.out.trans fz;clear fz gz y7 KR2 F2;obtain⟨k7,h9,x0,x1⟩:=yM (w:=w) (x':= .int .i64 (bEE).1) (y':= .int .i64 (bEE).2) y2 k9 y4 Ol kz;have h7:Hid _:=k7;have h5:Hid _:=h9;have HE:Hid (X=([bEE],X.2)):=y8;clear k7 h9 y2 k9;obtain⟨z0,z1,zf⟩:=aH kz;clear kz;rw[aS];go_wp2;refine bodyPost_ret (v:=rgV (bEE)) (by simp[results,Tryz.results260,go_sem,aS,x0,x1]) rfl ?_;exact⟨by rw[HE.out];rfl,by rw[HE.out];exact h7.out,h5.out⟩
 by_cases k3:a.tag=3
 ·have h1:=h3 k3 lb vb xb F alive vs _ VA;have k8:Calls Tryz.prog 307 #[.pointer (some ⟨vb,0,none⟩),.pointer (some ⟨b,0,none⟩)] (w.alloc o0) _:=h1;have hX:=xE (lens:=bCG al) (fl:=fl) (b:=b) (o:=o) (l:=l) (q:=q) (alive:=alive) (vs:=vs) (F:=F) k3;rw[show bZ a.tag=396 by rw[k3];rfl];generalize exA (bCG al) fl alive vs (.node b o a l q) F=X at*;have y8:Hid (X=([bEE],X.2)):=by rw[Hid,hX]
  clear VA bA kA h lowc hi hw z2 y9 h8 hl h2 h3 h6 hv hp;clear hX ht k0 k1 k2 k3 h1;go_enter Tryz.func260,Tryz.ntmps260
  go_upto_region 1 with fail
  rw[<-y3];clear y3;generalize w.alloc o0=wA at*;go_wp2_with fail
  refine k8.mono ?_;rintro e W ⟨rfl,f2,x2⟩;have y7:Hid (VC w0 pb lb vb xb vS S X.2 alive vs W):=HV.out.next x2 f2;have KR2:Hid (W.heap[w.heap.size]?=some (.cells #[.int .i64 0,.int .i64 0] 259 (0,0))):=x2.keep KA.out Ob Oy Oy;have F2:Hid (Fs w0.heap.size false w W):=FA.out.trans x2;clear f2 x2 HV KA FA k8;go_wp2_with fail
  refine(rK _).mono ?_;rintro e Z ⟨rfl,gz⟩;have fz:Fs w0.heap.size false W Z:=Fs.of gz y7.out.size false;have kz:=fz.keep KR2.out Ob Oy Oy;have y2:=y7.out.vw.fl.new gz.block;have k9:=F2.out.trans fz;clear fz gz y7 KR2 F2;obtain⟨k7,h9,x0,x1⟩:=yM (w:=w) (x':= .int .i64 (bEE).1) (y':= .int .i64 (bEE).2) y2 k9 y4 Ol kz;have h7:Hid _:=k7;have h5:Hid _:=h9;have HE:Hid (X=([bEE],X.2)):=y8;clear k7 h9 y2 k9;obtain⟨z0,z1,zf⟩:=aH kz;clear kz;rw[aS];go_wp2;refine bodyPost_ret (v:=rgV (bEE)) (by simp[results,Tryz.results260,go_sem,aS,x0,x1]) rfl ?_;exact⟨by rw[HE.out];rfl,by rw[HE.out];exact h7.out,h5.out⟩
 by_cases k6:a.tag=6
 ·have h1:=h6 k6 lb vb xb F alive vs _ VA;have k8:Calls Tryz.prog 309 #[.pointer (some ⟨vb,0,none⟩),.pointer (some ⟨b,0,none⟩)] (w.alloc o0) _:=h1;rw[show bZ a.tag=403 by rw[k6];rfl];generalize exA (bCG al) fl alive vs (.node b o a l q) F=X at*;clear VA bA kA h lowc hi hw z2 y9 h8 hl h2 h3 h6 hv hp;clear ht k0 k1 k2 k3 k6 h1;go_enter Tryz.func260,Tryz.ntmps260
  go_upto_region 1 with fail
  rw[<-y3];clear y3;generalize w.alloc o0=wA at*;go_wp2_with fail
  refine k8.mono ?_;rintro e W ⟨rfl,f2,x2⟩;generalize hR:hdR X.1=R at*;have y2:=f2;have k9:=FA.out.trans x2;have kz:=x2.keep KA.out Ob Oy Oy;clear f2 x2;obtain⟨k7,h9,x0,x1⟩:=yM (w:=w) (x':= .int .i64 (R).1) (y':= .int .i64 (R).2) y2 k9 y4 Ol kz;have h7:Hid _:=k7;have h5:Hid _:=h9;clear k7 h9 y2 k9;obtain⟨z0,z1,zf⟩:=aH kz;clear kz;rw[aS];go_wp2;refine bodyPost_ret (v:=rgV (R)) (by simp[results,Tryz.results260,go_sem,aS,x0,x1]) rfl ?_;exact⟨rfl,h7.out,h5.out⟩
 have k45:a.tag=4\/a.tag=5:=Oa
 obtain⟨y5,z4⟩:=hl Oa;obtain⟨u,p,z3⟩:=y5.val Ox
 have m3:w0.cell? ⟨b,0,none⟩=some (bCH l):=by
  rcases k45 with k4|k4
  ·obtain⟨cs,hc,h3⟩:=aI h8 (n:=4) k4;rw[cell_of_row _ _ _ _ _ _ hc];exact h3
  ·obtain⟨cs,hc,h3⟩:=aI h8 (n:=5) k4;rw[cell_of_row _ _ _ _ _ _ hc];exact h3
 have h1:=z4 lb vb xb F alive vs _ VA;have c3:=lowc m3;rw[z3]at c3 h1;rcases k45 with k4|k5
 ·have hX:=zS (lens:=bCG al) (fl:=fl) (b:=b) (o:=o) (l:=l) (q:=q) (alive:=alive) (vs:=vs) (F:=F) (.inl k4);rw[hX,show bZ a.tag=398 by rw[k4];rfl];generalize exA (bCG al) fl alive vs l F=X at*;clear VA bA kA h lowc hi hw z2 y9 h8 hl h2 h3 h6 hv hp;clear hX ht k0 k1 k2 k3 k4 k6 z4 m3 z3;go_enter Tryz.func260,Tryz.ntmps260
  go_upto_region 1 with fail
  rw[<-y3];clear y3;generalize w.alloc o0=wA at*;go_wp2_with fail
  refine h1.mono ?_;rintro e W ⟨rfl,f2,x2⟩;generalize hR:hdR X.1=R at*;have y2:=f2;have k9:=FA.out.trans x2;have kz:=x2.keep KA.out Ob Oy Oy;clear f2 x2;obtain⟨k7,h9,x0,x1⟩:=yM (w:=w) (x':= .int .i64 (R).1) (y':= .int .i64 (R).2) y2 k9 y4 Ol kz;have h7:Hid _:=k7;have h5:Hid _:=h9;clear k7 h9 y2 k9;obtain⟨z0,z1,zf⟩:=aH kz;clear kz;rw[aS];go_wp2;refine bodyPost_ret (v:=rgV (R)) (by simp[results,Tryz.results260,go_sem,aS,x0,x1]) rfl ?_;exact⟨rfl,h7.out,h5.out⟩
 ·have hX:=aB8 (lens:=bCG al) (fl:=fl) (b:=b) (o:=o) (l:=l) (q:=q) (alive:=alive) (vs:=vs) (F:=F) k5;rw[hX,show bZ a.tag=401 by rw[k5];rfl];generalize exA (bCG al) fl alive vs l F=X at*;clear VA bA kA h lowc hi hw z2 y9 h8 hl h2 h3 h6 hv hp;clear hX ht k0 k1 k2 k3 k5 k6 z4 m3 z3;go_enter Tryz.func260,Tryz.ntmps260
  go_upto_region 1 with fail
  rw[<-y3];clear y3;generalize w.alloc o0=wA at*;go_wp2_with fail
  refine h1.mono ?_;rintro e W ⟨rfl,f2,x2⟩;generalize hR:hdR X.1=R at*;have y7:=HV.out.next x2 f2;have KR2:=x2.keep KA.out Ob Oy Oy;go_wp2_with fail
  refine(aNE R _).mono ?_;rintro e Z ⟨rfl,gz⟩;have fz:Fs w0.heap.size false W Z:=Fs.of gz y7.size false;have kz:=fz.keep KR2 Ob Oy Oy;have y2:=y7.vw.fl.new gz.block;have k9:=(FA.out.trans x2).trans fz;clear fz gz y7 KR2 f2 x2;obtain⟨k7,h9,x0,x1⟩:=yM (w:=w) (x':= .int .i64 (nG R).1) (y':= .int .i64 (nG R).2) y2 k9 y4 Ol kz;have h7:Hid _:=k7;have h5:Hid _:=h9;clear k7 h9 y2 k9;obtain⟨z0,z1,zf⟩:=aH kz;clear kz;rw[aS];go_wp2;refine bodyPost_ret (v:=rgV (nG R)) (by simp[results,Tryz.results260,go_sem,aS,x0,x1]) rfl ?_;exact⟨rfl,h7.out,h5.out⟩
end
section
open Go.RowKit Go.Lib Go.Deep Go.Maps Go.ChangeMaps Go.MapKept
variable {w0:World} {pb lb kb vb xb:Nat} {vS:Value} {S:Sl} {F F':Fl} {alive:Bool} {vs:Vr} {u w w':World} {m:Bool} {al fl:List Tr}
theorem sM{lens:Nat->Int}{t:Tr}(h:Ws 21 t):exA lens fl alive vs t F=([iK vs t],F):=by
 cases t with
 |nil=>exact absurd h (by unfold Ws bK;simp)
 |node b o a l q=>
  obtain⟨_,x,y,h3,_⟩:=h.parts
  by_cases h0:a.tag=0
  ·rw[aBA h0];show _=([if a.tag=0 then _ else _],F);rw[if_pos h0]
  by_cases h1:a.tag=1
  ·rw[aB9 h1];show _=([if a.tag=0 then _ else _],F);rw[if_neg h0]
  ·exfalso;have h2: ¬a.tag<=1:=Oa
   simp[sig,h2]at h3
theorem aDA{b o:Nat}{a:Nd}{b3 o3:Nat}{c:Nd}{x y q:Tr}(h15:a.tag=15):eU vs (.node b o a (.node b3 o3 c x y) q)=(qL c.op (iK vs x) (iK vs y)&&eU vs q):=by
 conv=>lhs;unfold eU
 rw[Oh]
theorem aD9{t:Tr}(h:Ws 5 t):eU vs t=eU vs (bCF t):=by
 rcases h.lst (.inr Ow)with rfl|⟨b,o,a,l,rfl,ht,_⟩
 ·rfl
 ·conv=>lhs;unfold eU
  exact if_pos ht
def G2(w0:World)(pb:Nat)(vS:Value)(S:Sl)(al fl:List Tr):Tr->Prop
 | .nil=>True
 | .node _ _ _ l q=>GV 260 w0 pb vS S al fl bCH l/\GV 260 w0 pb vS S al fl bCH q
theorem aPL{cb:Nat}{p:Tr}(h4:Ws 5 p)(hi:IsT w0 p)(hA:fE (fun e=>Ws 20 e/\G2 w0 pb vS S al fl e) (bCF p))(hc:w0.cell? ⟨cb,4,none⟩=some (bCH p))(h:VC w0 pb lb vb xb vS S F alive vs w):
 Calls Tryz.prog 337 #[.pointer (some ⟨vb,0,none⟩),.pointer (some ⟨cb,0,none⟩)] w fun e w'=>e= .returned (.bool (eU vs p))/\FlW w0.heap.size vS S F w'/\Fs w0.heap.size false w w':=by
 obtain⟨ao,cp,k7⟩:=h4.lstval Ov;have hlen:=fB Ov h4;have k2:=h4.elems Ov;rw[aD9 h4];rw[k7]at hc;have hc:=aE h.low hc;have z0:Hid (Ws 5 p):=h4;have HI:Hid (IsT w0 p):=hi;have L0:VC w0 pb lb vb xb vS S F alive vs w/\Fs w0.heap.size false w w:=⟨h,Fs.refl _ _ _⟩;obtain⟨T,hT⟩:∃ T,T=eU vs (bCF p):=⟨_,rfl⟩;rw[<-hT];have y0:T=eU vs (aL 0 (bCF p)):=hT;clear h hi k2 h4 hT;go_enter Tryz.func337,Tryz.ntmps337
 go_wp2_with fail
 go_loopg [12] (aD p) (fun m v wr=>∃ i:Nat,v= .int .i64 i/\i<=aD p/\aD p<=i+m/\T=eU vs (aL i (bCF p))/\VC w0 pb lb vb xb vS S F alive vs wr/\Fs w0.heap.size false w wr)
 case atStart=>exact⟨0,rfl,Qe _,Oa,y0,L0⟩
 case round=>
  clear L0 y0;obtain⟨i,rfl,hle,hm,hT,X,hx⟩:=hrel
  by_cases y9:i < aD p
  ·have k6:(i:Int) < (aD p:Int):=Oa
   obtain⟨b2,o2,a2,e2,r2,hd,k9⟩:=dK i (bCF p) (by rw[<-aT];exact y9);have y3:=fE.drop i _ hA;rw[hd]at y3 hT;obtain⟨y4,⟨hE,hG⟩,_⟩:=y3;obtain⟨b3,o3,a3,l3,q3,rfl,h7,w21l,w21q⟩:=aL9 hE;obtain⟨gg,rfl,h0⟩:=pJ (H:=0) z0.out HI.out (Fr.refl 0 F0 w0) F0.body k7 hd ⟨b3,o3,a3,l3,q3,rfl,h7⟩;have h0:w0.cell? ⟨gg,i,none⟩=some (.pointer (some ⟨b3,0,none⟩)):=h0;have h0:=aE X.low h0
   have k8:IsT w0 (.node b3 o3 a3 l3 q3):=by
    have h1:IsT w0 (bCF p):=by
     cases p with
     |nil=>trivial
     |node=>exact HI.out.1
    have h2:=nQ i _ h1;rw[hd]at h2;exact h2.1
   obtain⟨m0,m2,m3⟩:=pW k8.2.2 h7;obtain⟨y2,y1⟩:GV 260 w0 pb vS S al fl bCH l3/\GV 260 w0 pb vS S al fl bCH q3:=hG;obtain⟨ul,pl,k4⟩:=(sP w21l).val Ox;obtain⟨uq,pq,k3⟩:=(sP w21q).val Ox;have h5:=y2 lb vb xb F alive vs wr.drew X.drew;rw[sM w21l,k4]at h5
   have y7:Hid (∀ w2,VC w0 pb lb vb xb vS S F alive vs w2->Calls Tryz.prog 260 #[.pointer (some ⟨vb,0,none⟩),.iface uq (.pointer (some pq))] w2 (xI w0.heap.size vS S (iK vs q3) F w2)):=fun w2 h2=>by
    have:=y1 lb vb xb F alive vs w2 h2;rw[k3,sM w21q]at this;exact this
   rw[k4]at m2;rw[k3]at m3;rw[aDA y4]at hT
   have ho:21<=a3.op/\a3.op<=26:=by
    obtain⟨k5,_⟩:=hE.parts;exact k5.op7 h7
   change Calls Tryz.prog _ _ _ (xI w0.heap.size vS S (iK vs l3) F wr.drew)at h5
   have h9:Hid _:=m0;have h8:Hid _:=m2;have h6:Hid _:=m3;have c0:=aE X.low m0;have c2:=aE X.low m2;have c3:=aE X.low m3;have y8:Hid (aL (i+1) (bCF p)=r2):=k9;generalize iK vs l3=R at*;generalize iK vs q3=Q at*;generalize a3.op=op at*;obtain⟨v,hv⟩:∃ v,qL op R Q=v:=⟨_,rfl⟩
   have y6:Hid (∀ W,Calls Tryz.prog 354 #[.int .i64 op,rgV R,rgV Q] W fun e w'=>e= .returned (.bool v)/\Below W.heap.size W w'):=fun W=>by
    have:=aSU op R Q W ho;rw[hv]at this;exact this
   rw[hv]at hT;have HX:Hid (VC w0 pb lb vb xb vS S F alive vs wr):=X;have y5:Hid (Fs w0.heap.size false w wr):=hx;clear hE hd k9 k8 X hx hv h7 y4 y2 y1 w21l w21q k4 k3 m0 m2 m3 ho;cases v
   ·have k1:Hid (T=false):=hT;clear hT;go_upto_region 4 with fail
    go_region_held3 (fun w'=>w'.cell? ⟨b3,0,none⟩=some (.int .i64 op)/\w'.cell? ⟨b3,2,none⟩=some (.iface ul (.pointer (some pl)))/\w'.cell? ⟨b3,3,none⟩=some (.iface uq (.pointer (some pq))))
     (first
       |(refine⟨?_,?_,?_⟩<;>assumption)
       |go_keep)
     (first
       |(go_at_call 260;refine k0.mono ?_;rintro e Wb ⟨rfl,fb,xb'⟩;have vb':=va.next xb' fb;have b0:=aE vb'.low h9.out;have b2':=aE vb'.low h8.out;have b3':=aE vb'.low h6.out)
       |(go_at_call 260;refine h5.mono ?_;rintro e Wa ⟨rfl,fa,xa⟩;have va:=HX.out.drew.next xa fa;have k0:=y7.out Wa va;have a0:=aE va.low h9.out;have a2:=aE va.low h8.out;have a3:=aE va.low h6.out)
       |(go_at_call 354;refine(y6.out _).mono ?_;rintro e Wc ⟨rfl,h3⟩;have vc:=vb'.new h3;have d0:=aE vc.low h9.out;have d2:=aE vc.low h8.out;have d3:=aE vc.low h6.out))
    have FW:Hid (FlW w0.heap.size vS S F Wc/\Fs w0.heap.size false w Wc):=⟨vc.vw.fl,((y5.out.drew.trans xa).trans xb').trans (Fs.of h3 vb'.size false)⟩;clear va vb' vc fa xa fb xb' h3 a0 a2 a3 b0 b2' b3' d0 d2 d3 h5 k0;go_wp2;go_ret;exact⟨bX (by rw[k1.out]),FW.out⟩
   ·have k1:Hid (T=eU vs r2):=by rw[Hid,hT];rfl
    clear hT;go_upto_region 4 with fail
    go_region_held3 (fun w'=>w'.cell? ⟨b3,0,none⟩=some (.int .i64 op)/\w'.cell? ⟨b3,2,none⟩=some (.iface ul (.pointer (some pl)))/\w'.cell? ⟨b3,3,none⟩=some (.iface uq (.pointer (some pq))))
     (first
       |(refine⟨?_,?_,?_⟩<;>assumption)
       |go_keep)
     (first
       |(go_at_call 260;refine k0.mono ?_;rintro e Wb ⟨rfl,fb,xb'⟩;have vb':=va.next xb' fb;have b0:=aE vb'.low h9.out;have b2':=aE vb'.low h8.out;have b3':=aE vb'.low h6.out)
       |(go_at_call 260;refine h5.mono ?_;rintro e Wa ⟨rfl,fa,xa⟩;have va:=HX.out.drew.next xa fa;have k0:=y7.out Wa va;have a0:=aE va.low h9.out;have a2:=aE va.low h8.out;have a3:=aE va.low h6.out)
       |(go_at_call 354;refine(y6.out _).mono ?_;rintro e Wc ⟨rfl,h3⟩;have vc:=vb'.new h3;have d0:=aE vc.low h9.out;have d2:=aE vc.low h8.out;have d3:=aE vc.low h6.out))
    obtain⟨m,rfl⟩:=Oj gk
    have fin:∃ i':Nat,Value.int .i64 ((i:Int)+1)= .int .i64 i'/\i'<=aD p/\aD p<=i'+m/\T=eU vs (aL i' (bCF p))/\VC w0 pb lb vb xb vS S F alive vs Wc/\Fs w0.heap.size false w Wc:=
     ⟨i+1,Od,Oa,Oa,by rw[y8.out];exact k1.out,vc,((y5.out.drew.trans xa).trans xb').trans (Fs.of h3 vb'.size false)⟩
    clear va vb' vc fa xa fb xb' h3 a0 a2 a3 b0 b2' b3' d0 d2 d3 h5 k0 y8 k1;go_wp2;go_roundg m
    case rel=>exact fin
    case measure=>omega
  ·have k6: ¬(i:Int) < (aD p:Int):=Oa
   have z1:Hid (T=true):=by
    rw[Hid,hT,show i=aO (bCF p)by rw[<-aT];omega,eS];rfl
   have HR:Hid (FlW w0.heap.size vS S F wr/\Fs w0.heap.size false w wr):=⟨X.vw.fl,hx⟩;clear X hx hT;go_wp2;go_ret;exact⟨bX (by rw[z1.out]),HR.out⟩
end
end Go.Proofs.YtikffmloeifkpaaGreatDoor
