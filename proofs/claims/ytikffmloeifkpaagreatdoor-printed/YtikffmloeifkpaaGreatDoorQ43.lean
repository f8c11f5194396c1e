/- Contracts. -/
import Derived.Test.YtikffmloeifkpaaGreatDoorQ42
import Derived.Test.YtikffmloeifkpaaGreatDoorQ37
import Derived.Test.YtikffmloeifkpaaGreatDoorQ23
import Derived.Test.YtikffmloeifkpaaGreatDoorQ36
set_option maxHeartbeats 16000000
set_option maxRecDepth 100000
namespace Go.Proofs.YtikffmloeifkpaaGreatDoor
section
open Go.RowKit Go.Lib Go.Deep Go.Maps Go.ChangeMaps Go.MapKept
variable {w0:World} {pb lb kb vb xb nw nw' c c':Nat} {vS:Value} {K K':Kn} {S:Sl} {F F':Fl} {alive:Bool} {vs:Vr} {u w w':World} {m:Bool} {al fl:List Tr} {lens:Nat->Int}
theorem SkW.viewE(h:SkW w0 pb lb kb vS S F nw c K w){E:Int->Option Nat}(hE:LkE w0.heap.size lb pb kb vS nw c K E w)(p:Int)(hp:0<=p/\p<=9223372036854775807):
 Calls Tryz.prog 202 #[.pointer (some ⟨lb,0,none⟩),.int .i64 p] w fun e w'=>∃ xb,e= .returned (.agg #[.pointer (some ⟨lb,0,none⟩),.pointer (some ⟨xb,0,none⟩),.bool (K p).isSome])/\Below w.heap.size w w'/\(K p≠none->E p=some xb)/\(K p=none->w.heap.size<=xb)/\w0.heap.size<=xb/\xb < w'.heap.size/\
  ∀ w2:World,Below w'.heap.size w' w2->∀ vb,w2.heap[vb]?=some (.cells #[.pointer (some ⟨lb,0,none⟩),.pointer (some ⟨xb,0,none⟩),.bool (K p).isSome] 349 (0,0))->VC w0 pb lb vb xb vS S F (K p).isSome (cC (K p)) w2:=by
 refine(aLD hE p hp).mono ?_;rintro e W ⟨xb,rfl,k1,k2,hv,hb⟩;have hz:=h.size;have h0:xb < W.heap.size:=by obtain⟨cs,hc,_⟩:=hv;exact(Oo hc)
 refine⟨xb,rfl,hb,k1,k2,?_,h0,fun w2 h2 vb h1=>?_⟩
 ·by_cases hk:K p=none
  ·have:=k2 hk;omega
  ·obtain⟨_,_,hH,_⟩:=hE.block (k1 hk);exact hH
 have s2:SkW w0 pb lb kb vS S F nw c K w2:=(h.new hb).new h2;obtain⟨E2,h3⟩:=s2.lk;exact⟨⟨h1,⟨_,_,h3.blk⟩,hv.same (h2.block _ h0),s2.fl,s2.size⟩,s2.low,(h.ok p).vs⟩
theorem aT0{k b n i j:Nat}{x y v:Value}(h:w.cell? ⟨b,n,none⟩=some v)(hn:b≠k):((w.setCell ⟨k,i,none⟩ x).setCell ⟨k,j,none⟩ y).cell? ⟨b,n,none⟩=some v:=
 (Qf ((Om hn).trans (Om hn))).trans h
theorem SkW.same(h:SkW w0 pb lb kb vS S F nw c K w)(e:K'=K):SkW w0 pb lb kb vS S F nw c K' w:=by rw[e];exact h
theorem aPR{b o:Nat}{a:Nd}{l q:Tr}(ht:a.tag=9)(y0:0<=a.which/\a.which < 12)(hi:IsT w0 (.node b o a l q))(hl:Ws 0 l/\GV 260 w0 pb vS S al fl bCH l):GSk 207 w0 pb vS S al fl bCH (.node b o a l q):=by
 intro lb kb F nw c K p w hp hc h;have h0:bCH (.node b o a l q)= .iface 326 (.pointer (some ⟨b,0,none⟩)):=(Oh).trans (by rw[ht];rfl);rw[h0];obtain⟨h7,k4⟩:=hl;obtain⟨ul,pl,h8⟩:=h7.val Ox;obtain⟨j,hj⟩:∃ j:Nat,a.which=j:=⟨a.which.toNat,Oa⟩;have hjI:0<=(j:Int)/\(j:Int) < 12:=Oa
 obtain⟨m2,m3⟩:w0.cell? ⟨b,2,none⟩=some (.int .i64 (j:Int))/\w0.cell? ⟨b,3,none⟩=some (bCH l):=by
  obtain⟨cs,h5,h1,h2,h3⟩:=aI hi.2.2 (n:=9) ht;exact⟨by rw[cell_of_row _ _ _ _ _ _ h5,<-hj];exact h1.2.2,Og h5 h2⟩
 rw[h8]at m3;rw[yF ht,hj,Int.toNat_natCast];generalize mu (.node b o a l q)=M at*;obtain⟨E,hE⟩:=h.lk;have hfew:=h.few;have y2:0<=p/\p<=9223372036854775807:=Oa
 have hv:=h.viewE hE p y2;have h6:=h.size;have HS:Hid (SkW w0 pb lb kb vS S F nw c K w):=h;have HE:Hid (LkE w0.heap.size lb pb kb vS nw c K E w):=hE;have okR:=(wK (lens:=bCG al) (fl:=fl) (alive:=(K p).isSome) (h.ok p).vs l 0 F h7).hd
 have y5:Hid (∀ vb xb w2,VC w0 pb lb vb xb vS S F (K p).isSome (cC (K p)) w2->Calls Tryz.prog 260 #[.pointer (some ⟨vb,0,none⟩),.iface ul (.pointer (some pl))] w2 (xI w0.heap.size vS S (hdR (exA (bCG al) fl (K p).isSome (cC (K p)) l F).1) (exA (bCG al) fl (K p).isSome (cC (K p)) l F).2 w2)):=fun vb xb w2 h2=>by
  have:=k4 lb vb xb F _ _ w2 h2;rw[h8]at this;exact this
 generalize exA (bCG al) fl (K p).isSome (cC (K p)) l F=x at*;obtain⟨xl,F4⟩:=x;dsimp only at*;generalize hdR xl=R at*;have k0:Hid _:=m2;have k7:Hid _:=m3;have ta9:=fun u v=>kG u v w;have ta10:=fun u v=>gN u v w;have ta11:=fun u v=>pB u v w;have ta12:=fun u v=>iG u v w;have ta13:=fun u v=>iL u v w;have ta14:=fun u v=>pR u v w;obtain⟨X,hX⟩:∃ X:St × Fl,X=((K p).map fun vs=>oT vs j R,F4):=⟨_,rfl⟩;rw[<-hX];have HX:Hid (X=((K p).map fun vs=>oT vs j R,F4)):=hX;have h4:j < 12:=Oa
 have HR:Hid (bV R):=okR;clear hX okR h hE k4 h8 h7 hi h0 y0 hj ht m2 m3;go_enter Tryz.func207,Tryz.ntmps207
 go_wp2_with fail
 refine hv.mono ?_;rintro e W ⟨xb,rfl,hb,k9,k8,hx3,hx4,k2⟩;clear hv;obtain⟨o1,h9⟩:∃ o1:Obj,o1= .cells #[.pointer (some ⟨lb,0,none⟩),.pointer (some ⟨xb,0,none⟩),.bool (K p).isSome] 349:=⟨_,rfl⟩;obtain⟨kB,bB,zB⟩:=qN W o1;have kB':Hid ((W.alloc o1).heap[W.heap.size]?=some (.cells #[.pointer (some ⟨lb,0,none⟩),.pointer (some ⟨xb,0,none⟩),.bool (K p).isSome] 349 (0,0))):=by rw[Hid,kB,h9]
 have V3:=k2 _ bB W.heap.size kB'.out;have F3:Hid (Fs w0.heap.size false w (W.alloc o1)):=(Fs.of hb HS.out.size false).trans (Fs.of bB (HS.out.new hb).size false);have k6:Hid (VC w0 pb lb W.heap.size xb vS S F (K p).isSome (cC (K p)) (W.alloc o1)):=V3;have k5:=y5.out _ _ _ V3.drew;have c2:=aE V3.low k0.out;have c3:=aE V3.low k7.out;obtain⟨v0,v1,v2,_⟩:=aG V3.vw.view;have y3:W.heap.size≠xb:=Oa
 have k3:b≠xb:=fun e=>by
  have h1:b < w0.heap.size:=Qg _ _ k0.out;omega
 clear V3 kB bB hb k2 zB;go_upto_region 4 with fail
 rw[<-h9];clear h9;generalize W.alloc o1=W1 at*
 go_region_held3 (fun w'=>w'.cell? ⟨W.heap.size,1,none⟩=some (.pointer (some ⟨xb,0,none⟩))/\w'.cell? ⟨b,2,none⟩=some (.int .i64 (j:Int))/\w'.cell? ⟨b,3,none⟩=some (.iface ul (.pointer (some pl))))
  (first
    |(refine⟨?_,?_,?_⟩<;>assumption)
    |exact⟨aT0 kn1 y3,aT0 d2 k3,aT0 d3 k3⟩
    |go_keep)
  ((go_at_call 260;refine k5.mono ?_;rintro e W3 ⟨rfl,f3,x3⟩;rw[aS];have V4:=k6.out.drew.next x3 f3;obtain⟨kn0,kn1,kn2,_⟩:=aG V4.vw.view;obtain⟨kc0,kc1⟩:=V4.vw.vars.cells.1 j h4;have kf:=V4.vw.vars.cells.2;have d2:=aE V4.low k0.out;have d3:=aE V4.low k7.out))
 have FIN:Hid (pO w0 pb lb kb vS S p nw (c+2*M) K X w (.returned (.tuple #[])) ((W3.setCell ⟨xb,j*2,none⟩ (.int .i64 R.1)).setCell ⟨xb,j*2+1,none⟩ (.int .i64 R.2))):=by
  have x4:Fs w0.heap.size false w W3:=F3.out.drew.trans x3;have hL:LkE w0.heap.size lb pb kb vS nw c K E W3:=HE.out.fs x4;have S3:SkW w0 pb lb kb vS S F4 nw c K W3:=HS.out.next x4 f3;cases hK:K p with
  |none=>
   have k1:=k8 hK;have y1:=V4.vw.vars;obtain⟨cs,h5,_⟩:=y1;have x5:Fs w0.heap.size false w ((W3.setCell ⟨xb,j*2,none⟩ (.int .i64 R.1)).setCell ⟨xb,j*2+1,none⟩ (.int .i64 R.2)):=(x4.setNew h6 k1 _ _).setNew h6 k1 _ _;have f5:FlW w0.heap.size vS S F4 ((W3.setCell ⟨xb,j*2,none⟩ (.int .i64 R.1)).setCell ⟨xb,j*2+1,none⟩ (.int .i64 R.2)):=(f3.setOther h5 Ob _ _).setOther (aM _ h5) Ob _ _;refine⟨rfl,nw,K,Qc _,?_,?_,fun _ _ _=>rfl,x5.both⟩
   ·rw[HX.out];exact(HS.out.next x5 f5).mono Oa hc
   ·rw[HX.out,hK];rfl
  |some vs=>
   have y4:=k9 (by rw[hK];exact fun h=>by cases h);obtain⟨l5,x5⟩:=hL.put y4 hK h4 R;have S5:=S3.step x5 ⟨E,l5⟩ (eW S3.ok (OkS.upd (HS.out.ok p vs hK) j HR.out) p);refine⟨rfl,nw,bEI K p (some (oT vs j R)),Qc _,?_,?_,fun q hq _=>cE hq,x4.both.trans x5.both⟩
   ·rw[HX.out];exact S5.mono Oa hc
   ·rw[HX.out,hK,bU];rfl
 clear f3 x3 V4 kn0 kn1 kn2 kc0 kc1 kf d2 d3 k5 c2 c3 v0 v1 v2 HE HS HX F3 k6 kB';go_wp2;go_end0
 exact FIN.out
theorem aLP{b o:Nat}{a:Nd}{l q:Tr}(ht:a.tag=13)(hi:IsT w0 (.node b o a l q))(hl:Ws 0 l/\GV 260 w0 pb vS S al fl bCH l):GSk 207 w0 pb vS S al fl bCH (.node b o a l q):=by
 intro lb kb F nw c K p w hp hc h;have h0:bCH (.node b o a l q)= .iface 341 (.pointer (some ⟨b,0,none⟩)):=(Oh).trans (by rw[ht];rfl);rw[h0];obtain⟨h5,h8⟩:=hl;obtain⟨ul,pl,h1⟩:=h5.val Ox
 have m3:w0.cell? ⟨b,0,none⟩=some (bCH l):=by
  obtain⟨cs,k5,h2⟩:=aI hi.2.2 (n:=13) ht;rw[cell_of_row _ _ _ _ _ _ k5];exact h2
 rw[h1]at m3;rw[aUU ht];generalize mu (.node b o a l q)=M at*;obtain⟨E,hE⟩:=h.lk;have hfew:=h.few;have h7:0<=p/\p<=9223372036854775807:=Oa
 have hv:=h.viewE hE p h7;have hLow:=h.size;have HS:Hid (SkW w0 pb lb kb vS S F nw c K w):=h;have HE:Hid (LkE w0.heap.size lb pb kb vS nw c K E w):=hE
 have k7:Hid (∀ vb xb w2,VC w0 pb lb vb xb vS S F (K p).isSome (cC (K p)) w2->Calls Tryz.prog 260 #[.pointer (some ⟨vb,0,none⟩),.iface ul (.pointer (some pl))] w2 (xI w0.heap.size vS S (hdR (exA (bCG al) fl (K p).isSome (cC (K p)) l F).1) (exA (bCG al) fl (K p).isSome (cC (K p)) l F).2 w2)):=fun vb xb w2 h2=>by
  have:=h8 lb vb xb F _ _ w2 h2;rw[h1]at this;exact this
 generalize exA (bCG al) fl (K p).isSome (cC (K p)) l F=x at*;obtain⟨xl,F4⟩:=x;dsimp only at*;generalize hdR xl=R at*;have k6:Hid _:=m3;have ta9:=fun u v=>kG u v w;have ta10:=fun u v=>gN u v w;have ta11:=fun u v=>pB u v w;have ta12:=fun u v=>iG u v w;have ta13:=fun u v=>iL u v w;have ta14:=fun u v=>pR u v w;clear h hE h8 h1 h5 hi h0 ht m3;go_enter Tryz.func207,Tryz.ntmps207
 go_wp2_with fail
 refine hv.mono ?_;rintro e W ⟨xb,rfl,hb,k4,k3,k2,k1,h6⟩;clear hv;obtain⟨o1,h3⟩:∃ o1:Obj,o1= .cells #[.pointer (some ⟨lb,0,none⟩),.pointer (some ⟨xb,0,none⟩),.bool (K p).isSome] 349:=⟨_,rfl⟩;obtain⟨kB,bB,zB⟩:=qN W o1;have kB':Hid ((W.alloc o1).heap[W.heap.size]?=some (.cells #[.pointer (some ⟨lb,0,none⟩),.pointer (some ⟨xb,0,none⟩),.bool (K p).isSome] 349 (0,0))):=by rw[Hid,kB,h3]
 have V3:=h6 _ bB W.heap.size kB'.out;have F3:Hid (Fs w0.heap.size false w (W.alloc o1)):=(Fs.of hb HS.out.size false).trans (Fs.of bB (HS.out.new hb).size false);have HV3:Hid (VC w0 pb lb W.heap.size xb vS S F (K p).isSome (cC (K p)) (W.alloc o1)):=V3;have h9:=k7.out _ _ _ V3;have c3:=aE V3.low k6.out;clear V3 kB bB hb h6 zB k4 k3 k2 k1;go_upto_region 22 with fail
 rw[<-h3];clear h3;generalize W.alloc o1=W1 at*;go_wp2_with fail
 refine h9.mono ?_;rintro e W3 ⟨rfl,f3,x3⟩;have S3:SkW w0 pb lb kb vS S F4 nw c K W3:=HS.out.next (F3.out.trans x3) f3;have k0:Hid _:=S3;have U3:Hid (Fu w0.heap.size w W3):=(F3.out.trans x3).both;have hk:=wG S3.lk p h7;clear f3 x3 h9 c3 S3;go_wp2_with fail
 refine hk.mono ?_;rintro e W4 ⟨rfl,h4,x4⟩;have S4:=k0.out.step x4 h4 (eW k0.out.ok OkS.none p)
 have FIN:Hid (pO w0 pb lb kb vS S p nw (c+2*M) K (none,F4) w (.returned (.tuple #[])) W4):=
  ⟨rfl,nw,_,Qc _,S4.mono Oa hc,bU _ _ _,fun q hq _=>cE hq,U3.out.trans x4.both⟩
 clear h4 x4 hk S4;go_wp2;go_end0
 exact FIN.out
theorem aLO{b o:Nat}{a:Nd}{l q:Tr}(ht:a.tag=14)(hi:IsT w0 (.node b o a l q))(hl:Ws 0 l/\GV 260 w0 pb vS S al fl bCH l):GSk 207 w0 pb vS S al fl bCH (.node b o a l q):=by
 intro lb kb F nw c K p w hp hc h;have h0:bCH (.node b o a l q)= .iface 344 (.pointer (some ⟨b,0,none⟩)):=(Oh).trans (by rw[ht];rfl);rw[h0];obtain⟨h4,h6⟩:=hl;obtain⟨ul,pl,h1⟩:=h4.val Ox
 have m3:w0.cell? ⟨b,0,none⟩=some (bCH l):=by
  obtain⟨cs,k3,h2⟩:=aI hi.2.2 (n:=14) ht;rw[cell_of_row _ _ _ _ _ _ k3];exact h2
 rw[h1]at m3;rw[sZ ht];generalize mu (.node b o a l q)=M at*;obtain⟨E,hE⟩:=h.lk;have hfew:=h.few;have k2:0<=p/\p<=9223372036854775807:=Oa
 have hv:=h.viewE hE p k2;have hLow:=h.size;have HS:Hid (SkW w0 pb lb kb vS S F nw c K w):=h;have HE:Hid (LkE w0.heap.size lb pb kb vS nw c K E w):=hE
 have k5:Hid (∀ vb xb w2,VC w0 pb lb vb xb vS S F (K p).isSome (cC (K p)) w2->Calls Tryz.prog 260 #[.pointer (some ⟨vb,0,none⟩),.iface ul (.pointer (some pl))] w2 (xI w0.heap.size vS S (hdR (exA (bCG al) fl (K p).isSome (cC (K p)) l F).1) (exA (bCG al) fl (K p).isSome (cC (K p)) l F).2 w2)):=fun vb xb w2 h2=>by
  have:=h6 lb vb xb F _ _ w2 h2;rw[h1]at this;exact this
 generalize exA (bCG al) fl (K p).isSome (cC (K p)) l F=x at*;obtain⟨xl,F4⟩:=x;dsimp only at*;generalize hdR xl=R at*;have k4:Hid _:=m3;have ta9:=fun u v=>kG u v w;have ta10:=fun u v=>gN u v w;have ta11:=fun u v=>pB u v w;have ta12:=fun u v=>iG u v w;have ta13:=fun u v=>iL u v w;have ta14:=fun u v=>pR u v w;clear h hE h6 h1 h4 hi h0 ht m3;go_enter Tryz.func207,Tryz.ntmps207
 go_wp2_with fail
 refine hv.mono ?_;rintro e W ⟨xb,rfl,hb,k1,k0,h9,h8,h5⟩;clear hv;obtain⟨o1,h3⟩:∃ o1:Obj,o1= .cells #[.pointer (some ⟨lb,0,none⟩),.pointer (some ⟨xb,0,none⟩),.bool (K p).isSome] 349:=⟨_,rfl⟩;obtain⟨kB,bB,zB⟩:=qN W o1;have kB':Hid ((W.alloc o1).heap[W.heap.size]?=some (.cells #[.pointer (some ⟨lb,0,none⟩),.pointer (some ⟨xb,0,none⟩),.bool (K p).isSome] 349 (0,0))):=by rw[Hid,kB,h3]
 have V3:=h5 _ bB W.heap.size kB'.out;have F3:Hid (Fs w0.heap.size false w (W.alloc o1)):=(Fs.of hb HS.out.size false).trans (Fs.of bB (HS.out.new hb).size false);have HV3:Hid (VC w0 pb lb W.heap.size xb vS S F (K p).isSome (cC (K p)) (W.alloc o1)):=V3;have h7:=k5.out _ _ _ V3;have c3:=aE V3.low k4.out;clear V3 kB bB hb h5 zB k1 k0 h9 h8;go_upto_region 27 with fail
 rw[<-h3];clear h3;generalize W.alloc o1=W1 at*;go_wp2_with fail
 refine h7.mono ?_;rintro e W3 ⟨rfl,f3,x3⟩;have S3:SkW w0 pb lb kb vS S F4 nw c K W3:=HS.out.next (F3.out.trans x3) f3;have HS3:Hid _:=S3;have U3:Hid (Fu w0.heap.size w W3):=(F3.out.trans x3).both
 have FIN:Hid (pO w0 pb lb kb vS S p nw (c+2*M) K (K p,F4) w (.returned (.tuple #[])) W3):=
  ⟨rfl,nw,K,Qc _,S3.mono Oa hc,rfl,fun _ _ _=>rfl,U3.out⟩
 clear f3 x3 h7 c3 S3;go_wp2;go_end0
 exact FIN.out
theorem aLS(k2:PgX pb al fl w0){b o:Nat}{a:Nd}{l q:Tr}(ht:a.tag=10)(hi:IsT w0 (.node b o a l q)){k s:Nat}(hk:a.which=k)(y8:k < al.length)(hs:a.site=s)(y6:s < S.length)(hl:Ws 0 l/\GV 260 w0 pb vS S al fl bCH l)(hq:Ws 0 q/\GV 260 w0 pb vS S al fl bCH q):GSk 207 w0 pb vS S al fl bCH (.node b o a l q):=by
 intro lb kb F nw c K p w hp hc h;have h5:bCH (.node b o a l q)= .iface 329 (.pointer (some ⟨b,0,none⟩)):=(Oh).trans (by rw[ht];rfl);rw[h5];obtain⟨h6,k4⟩:=hl;obtain⟨k0,k3⟩:=hq;obtain⟨ul,pl,h8⟩:=h6.val Ox;obtain⟨uq,pq,h7⟩:=k0.val Ox
 obtain⟨m0,m1,m2,m3,m4,m5⟩:w0.cell? ⟨b,0,none⟩=some (.string a.name)/\w0.cell? ⟨b,1,none⟩=some (.int .i64 a.npos)/\w0.cell? ⟨b,2,none⟩=some (.int .i64 (k:Int))/\w0.cell? ⟨b,3,none⟩=some (bCH l)/\w0.cell? ⟨b,4,none⟩=some (bCH q)/\w0.cell? ⟨b,5,none⟩=some (.int .i64 (s:Int)):=by
  obtain⟨cs,h0,h1,h2,h3,h4⟩:=aI hi.2.2 (n:=10) ht;rw[<-hk,<-hs];exact⟨Og h0 h1.1,Og h0 h1.2.1,Og h0 h1.2.2,Og h0 h2,Og h0 h3,Og h0 h4⟩
 rw[h8]at m3;rw[h7]at m4;rw[tD ht,hk,hs,Int.toNat_natCast];generalize mu (.node b o a l q)=M at*;obtain⟨E,hE⟩:=h.lk;have hfew:=h.few;have y7:0<=p/\p<=9223372036854775807:=Oa
 have hv:=h.viewE hE p y7;have hLow:=h.size;have HS:Hid (SkW w0 pb lb kb vS S F nw c K w):=h;have HE:Hid (LkE w0.heap.size lb pb kb vS nw c K E w):=hE
 have z1:Hid (∀ vb xb w2,VC w0 pb lb vb xb vS S F (K p).isSome (cC (K p)) w2->Calls Tryz.prog 268 #[.pointer (some ⟨vb,0,none⟩),.agg #[.string a.name,.int .i64 a.npos,.int .i64 (k:Int)],.iface ul (.pointer (some pl)),.int .i64 (s:Int)] w2 fun e w'=>e= .returned (.tuple #[])/\
  FlW w0.heap.size vS S (iD (exA (bCG al) fl (K p).isSome (cC (K p)) l F).2 s ((decide (0<=(hdR (exA (bCG al) fl (K p).isSome (cC (K p)) l F).1).1)&&decide ((hdR (exA (bCG al) fl (K p).isSome (cC (K p)) l F).1).2 < bCG al k))||!(K p).isSome)) w'/\Fs w0.heap.size false w2 w'):=fun vb xb w2 h2=>by
  have:=aI1 k2 a.name a.npos k y8 l h6 k4 s y6 h2;rw[h8]at this;exact this
 generalize iD (exA (bCG al) fl (K p).isSome (cC (K p)) l F).2 s ((decide (0<=(hdR (exA (bCG al) fl (K p).isSome (cC (K p)) l F).1).1)&&decide ((hdR (exA (bCG al) fl (K p).isSome (cC (K p)) l F).1).2 < bCG al k))||!(K p).isSome)=F2 at*
 have z2:Hid (∀ vb xb w2,VC w0 pb lb vb xb vS S F2 (K p).isSome (cC (K p)) w2->Calls Tryz.prog 260 #[.pointer (some ⟨vb,0,none⟩),.iface uq (.pointer (some pq))] w2 (xI w0.heap.size vS S (hdR (exA (bCG al) fl (K p).isSome (cC (K p)) q F2).1) (exA (bCG al) fl (K p).isSome (cC (K p)) q F2).2 w2)):=fun vb xb w2 h2=>by
  have:=k3 lb vb xb F2 _ _ w2 h2;rw[h7]at this;exact this
 generalize exA (bCG al) fl (K p).isSome (cC (K p)) q F2=x at*;obtain⟨xl,F4⟩:=x;dsimp only at*;generalize hdR xl=R at*;have y1:Hid _:=m0;have y0:Hid _:=m1;have k9:Hid _:=m2;have k8:Hid _:=m3;have z0:Hid _:=m4;have k7:Hid _:=m5;have ta9:=fun u v=>kG u v w;have ta10:=fun u v=>gN u v w;have ta11:=fun u v=>pB u v w;have ta12:=fun u v=>iG u v w;have ta13:=fun u v=>iL u v w;have ta14:=fun u v=>pR u v w;clear h hE k4 k3 h8 h7 h6 k0 hi h5 ht m0 m1 m2 m3 m4 m5 hk hs k2;go_enter Tryz.func207,Tryz.ntmps207
 go_wp2_with fail
 refine hv.mono ?_;rintro e W ⟨xb,rfl,hb,y5,y4,y3,y2,k1⟩;clear hv;obtain⟨o1,h9⟩:∃ o1:Obj,o1= .cells #[.pointer (some ⟨lb,0,none⟩),.pointer (some ⟨xb,0,none⟩),.bool (K p).isSome] 349:=⟨_,rfl⟩;obtain⟨kB,bB,zB⟩:=qN W o1;have kB':Hid ((W.alloc o1).heap[W.heap.size]?=some (.cells #[.pointer (some ⟨lb,0,none⟩),.pointer (some ⟨xb,0,none⟩),.bool (K p).isSome] 349 (0,0))):=by rw[Hid,kB,h9]
 have V3:=k1 _ bB W.heap.size kB'.out;have F3:Hid (Fs w0.heap.size false w (W.alloc o1)):=(Fs.of hb HS.out.size false).trans (Fs.of bB (HS.out.new hb).size false);have y9:Hid (VC w0 pb lb W.heap.size xb vS S F (K p).isSome (cC (K p)) (W.alloc o1)):=V3;have k6:=z1.out _ _ _ V3.drew;have c0:=aE V3.low y1.out;have c1:=aE V3.low y0.out;have c2:=aE V3.low k9.out;have c3:=aE V3.low k8.out;have c5:=aE V3.low k7.out;clear V3 kB bB hb k1 zB y5 y4 y3 y2;go_upto_region 8 with fail
 rw[<-h9];clear h9;generalize W.alloc o1=W1 at*
 go_region_held3 (fun w'=>w'.cell? ⟨b,0,none⟩=some (.string a.name)/\w'.cell? ⟨b,1,none⟩=some (.int .i64 a.npos)/\w'.cell? ⟨b,2,none⟩=some (.int .i64 k)/\w'.cell? ⟨b,3,none⟩=some (.iface ul (.pointer (some pl)))/\w'.cell? ⟨b,5,none⟩=some (.int .i64 (s:Int)))
  (first
    |(refine⟨?_,?_,?_,?_,?_⟩<;>assumption)
    |go_keep)
  ((go_at_call 268;refine k6.mono ?_;rintro e W2 ⟨rfl,f2,x2⟩;have V2:=y9.out.drew.next x2 f2;have d0:=aE V2.low y1.out;have d1:=aE V2.low y0.out;have d2:=aE V2.low k9.out;have d3:=aE V2.low k8.out;have d5:=aE V2.low k7.out))
 have k5:=z2.out _ _ _ V2;have d4:=aE V2.low z0.out;have F5:Hid (Fs w0.heap.size false w W2):=F3.out.drew.trans x2;clear V2 d0 d1 d2 d3 d5 c0 c1 c2 c3 c5 f2 x2 k6;go_wp2_with fail
 refine k5.mono ?_;rintro e W3 ⟨rfl,f3,x3⟩
 have FIN:Hid (pO w0 pb lb kb vS S p nw (c+2*M) K (K p,F4) w (.returned (.tuple #[])) W3):=
  ⟨rfl,nw,K,Qc _,(HS.out.next (F5.out.trans x3) f3).mono Oa hc,rfl,fun _ _ _=>rfl,(F5.out.trans x3).both⟩
 clear f3 x3 k5 d4;go_wp2;go_end0
 exact FIN.out
theorem aLR{b o b2 o2:Nat}{a z:Nd}{l x y:Tr}(ht:a.tag=11)(hz:z.tag=18)(hi:IsT w0 (.node b o a l (.node b2 o2 z x y)))(hl:Ws 1 l/\GCd 269 w0 pb vS S al fl bCH l)(hx:Ws 4 x/\GSk 136 w0 pb vS S al fl bCH x)(hy:Ws 4 y/\GSk 136 w0 pb vS S al fl bCH y):GSk 207 w0 pb vS S al fl bCH (.node b o a l (.node b2 o2 z x y)):=by
 intro lb kb F nw c K p w hp hc h
 have k7:mu (.node b o a l (.node b2 o2 z x y))=1+mu l+(mu x+mu y):=by
  conv=>lhs;unfold mu
  rw[Oh,if_pos (.inr (.inr ht))]
  conv=>lhs;rhs;unfold mu
  rw[Oh,Oh];omega
 rw[k7]at hc ⊢;have h6:bCH (.node b o a l (.node b2 o2 z x y))= .iface 332 (.pointer (some ⟨b,0,none⟩)):=(Oh).trans (by rw[ht];rfl);rw[h6];obtain⟨k5,y1⟩:=hl;obtain⟨k4,y0⟩:=hx;obtain⟨k3,k9⟩:=hy;obtain⟨ul,pl,k6⟩:=k5.val Ow;obtain⟨ax,cpx,h9⟩:=k4.lstval Ow;obtain⟨ay,cpy,h8⟩:=k3.lstval Ow
 obtain⟨m0,m1,m2⟩:w0.cell? ⟨b,0,none⟩=some (bCH l)/\w0.cell? ⟨b,1,none⟩=some (bCH x)/\w0.cell? ⟨b,2,none⟩=some (bCH y):=by
  obtain⟨cs,k2,h0,x',y',z',p',r',e,h1,h2⟩:=aI hi.2.2 (n:=11) ht;cases e;exact⟨Og k2 h0,Og k2 h1,Og k2 h2⟩
 have hfew:=h.few;have h5:=y1 lb kb F nw c K p w hp Oa h;rw[k6]at m0 h5;rw[h9]at m1;rw[h8]at m2
 have z5:Hid (∀ (F1:Fl) (nw1 c1:Nat) (K1:Kn) (W:World) (s:St),K1 p=s->0<=p/\p<=(nw1:Int)->c1+2*mu x<=4611686018427387904->SkW w0 pb lb kb vS S F1 nw1 c1 K1 W->Calls Tryz.prog 136 #[.pointer (some ⟨lb,0,none⟩),.int .i64 p,.slice ax (aD x) cpx] W (pO w0 pb lb kb vS S p nw1 (c1+2*mu x) K1 (stA (bCG al) fl x s F1) W)):=fun F1 nw1 c1 K1 W s hs h1 h2 h3=>by
  have:=y0 lb kb F1 nw1 c1 K1 p W h1 h2 h3;rw[h9,hs]at this;exact this
 have z4:Hid (∀ (F1:Fl) (nw1 c1:Nat) (K1:Kn) (W:World) (r:Int) (s:St),K1 r=s->0<=r/\r<=(nw1:Int)->c1+2*mu y<=4611686018427387904->SkW w0 pb lb kb vS S F1 nw1 c1 K1 W->Calls Tryz.prog 136 #[.pointer (some ⟨lb,0,none⟩),.int .i64 r,.slice ay (aD y) cpy] W (pO w0 pb lb kb vS S r nw1 (c1+2*mu y) K1 (stA (bCG al) fl y s F1) W)):=fun F1 nw1 c1 K1 W r s hs h1 h2 h3=>by
  have:=k9 lb kb F1 nw1 c1 K1 r W h1 h2 h3;rw[h8,hs]at this;exact this
 rw[aUW ht];have z3:Hid _:=m1;have z2:Hid _:=m2;have c0:=aE h.low m0;have ta9:=fun u v=>kG u v w;have ta10:=fun u v=>gN u v w;have ta11:=fun u v=>pB u v w;have ta12:=fun u v=>iG u v w;have ta13:=fun u v=>iL u v w;have ta14:=fun u v=>pR u v w;generalize y3:cdA (bCG al) fl l (K p) F=C at*;generalize hU:stA (bCG al) fl x C.1 C.2.2=U at*;generalize hV:stA (bCG al) fl y C.2.1 U.2=V at*;have HU:Hid (stA (bCG al) fl x C.1 C.2.2=U):=hU;have HV:Hid (stA (bCG al) fl y C.2.1 U.2=V):=hV;clear y3 hU hV h y1 y0 k9 k5 k4 k3 k6 h9 h8 hi h6 ht k7 m0 m1 m2 hz;go_enter Tryz.func207,Tryz.ntmps207
 go_wp2_with fail
 refine h5.mono ?_;rintro e W1 ⟨r,nw1,K1,rfl,hr1,hr2,S1,e1,e2,e3,U1⟩;have hf1:=S1.few;have k1:=z5.out C.2.2 nw1 (c+2*mu l) K1 W1 _ e1 Oa Oa S1;rw[HU.out]at k1;have d1:=aE S1.low z3.out;have z1:Hid _:=U1;have y8:Hid _:=e2;have y7:Hid _:=e3;clear S1 U1 e1 e2 e3 h5 c0;go_wp2_with fail
 refine k1.mono ?_;rintro e W2 ⟨rfl,nw2,K2,g0,S2,g1,g2,U2⟩;have hf2:=S2.few;have k8:K2 (r:Int)=C.2.1:=by rw[g2 (r:Int) Oa Oa];exact y8.out
 have k0:=z4.out U.2 nw2 (c+2*mu l+2*mu x) K2 W2 (r:Int) _ k8 Oa Oa S2;rw[HV.out]at k0;have d2:=aE S2.low z2.out;have z0:Hid (Fu w0.heap.size w W2):=z1.out.trans U2;have y6:Hid _:=g1;have y5:Hid _:=g2;clear S2 U2 g1 g2 k1 d1 k8;go_wp2_with fail
 refine k0.mono ?_;rintro e W3 ⟨rfl,nw3,K3,j0,S3,j1,j2,U3⟩;have hf3:=S3.few;have hj:=aC4 S3.lk p (r:Int) Oa Oa Oa Oa;have h7:Hid _:=S3;have y9:Hid (Fu w0.heap.size w W3):=z0.out.trans U3;have y4:Hid _:=j1;have y2:Hid _:=j2;clear S3 U3 j1 j2 k0 d2;go_wp2_with fail
 refine hj.mono ?_;rintro e W4 ⟨rfl,h4,f4⟩;have S4:=h7.out.step f4 h4 (eW (eW h7.out.ok OkS.none (r:Int)) (nP (h7.out.ok p) (h7.out.ok (r:Int))) p)
 have FIN:Hid (pO w0 pb lb kb vS S p nw (c+2*(1+mu l+(mu x+mu y))) K (lF U.1 V.1,V.2) w (.returned (.tuple #[])) W4):=by
  refine⟨rfl,nw3,_,Oa,S4.mono Oa hc,?_,fun q hq hl=>?_,y9.out.trans f4.both⟩
  ·rw[bU,y4.out,y2.out p Oa Oa,y6.out]
  ·rw[cE hq,cE Oa,y2.out q Oa Oa,y5.out q hq Oa];exact y7.out q hq hl
 clear S4 h4 f4 hj;go_wp2;go_end0
 exact FIN.out
theorem aLQ{b o:Nat}{a:Nd}{l q:Tr}(ht:a.tag=12)(hg:GSk 271 w0 pb vS S al fl cB (.node b o a l q)):GSk 207 w0 pb vS S al fl bCH (.node b o a l q):=by
 intro lb kb F nw c K p w hp hc h;have h2:bCH (.node b o a l q)= .iface 338 (.pointer (some ⟨b,0,none⟩)):=(Oh).trans (by rw[ht];rfl);rw[h2];have h0:=hg lb kb F nw c K p w hp hc h;have h1:Calls Tryz.prog 271 #[.pointer (some ⟨lb,0,none⟩),.int .i64 p,.pointer (some ⟨b,0,none⟩)] w _:=h0;have ta9:=fun u v=>kG u v w;have ta10:=fun u v=>gN u v w;have ta11:=fun u v=>pB u v w;have ta12:=fun u v=>iG u v w;have ta13:=fun u v=>iL u v w;have ta14:=fun u v=>pR u v w;generalize stA (bCG al) fl (.node b o a l q) (K p) F=y at*;clear hg h h0 h2 ht;go_enter Tryz.func207,Tryz.ntmps207
 go_wp2_with fail
 refine h1.mono ?_;rintro e W2 ⟨rfl,hG⟩;have HG:Hid (pO w0 pb lb kb vS S p nw (c+2*mu (.node b o a l q)) K y w (.returned (.tuple #[])) W2):=⟨rfl,hG⟩;clear hG;go_wp2;go_end0
 exact HG.out
end
section
open Go.RowKit Go.Lib Go.Deep Go.Maps Go.ChangeMaps Go.MapKept
variable {w0:World} {H pb lb kb vb xb nw nw' c c':Nat} {vS:Value} {K K':Kn} {S:Sl} {F F':Fl} {alive:Bool} {vs:Vr} {u w w':World} {m:Bool} {al fl:List Tr} {lens:Nat->Int}
def wst(g:Nat->Bool)(s q:St):St × Bool:=match s with
 |none=>(none,false)
 |some vs=>aP9 vs q g
theorem aD0{g:Nat->Bool}{cc:St->Fl->St × St × Fl}{f:St->Fl->St × Fl}{n round:Nat}{s:St}:whA g cc f (n+1) round s F=
 if(wst g s (f (cc s F).1 (cc s F).2.2).1).2=true then whA g cc f n (round+1) (if round=3 then(wst g s (f (cc s F).1 (cc s F).2.2).1).1.map (gL g)else(wst g s (f (cc s F).1 (cc s F).2.2).1).1) (f (cc s F).1 (cc s F).2.2).2 else((cc s F).2.1,(f (cc s F).1 (cc s F).2.2).2):=by
 cases s with
 |none=>
  conv=>lhs;unfold whA
  rfl
 |some vs=>
  cases hy:(f (cc (some vs) F).1 (cc (some vs) F).2.2).1 with
  |none=>
   conv=>lhs;unfold whA
   dsimp only;rw[hy];rfl
  |some after=>
   conv=>lhs;unfold whA
   dsimp only;rw[hy];show(if nJ (eJ g vs after) vs=true then _ else _)=if nJ (eJ g vs after) vs=true then _ else _
   by_cases h:nJ (eJ g vs after) vs=true
   ·rw[if_pos h,if_pos h]
    by_cases h3:round=3
    ·rw[if_pos h3,if_pos h3];rfl
    ·rw[if_neg h3,if_neg h3];rfl
   ·rw[if_neg h,if_neg h]
theorem aL8{g:Nat->Bool}{s q:St}(hf:∀ vs,s=some vs->∀ i,g i=true->vs i=bEE)(hq:OkS q):(wst g s q).2=false:=by
 cases s with
 |none=>rfl
 |some vs=>
  cases q with
  |none=>rfl
  |some after=>
   show nJ (eJ g vs after) vs=false;have h1:=hf vs rfl;cases hp:nJ (eJ g vs after) vs with
   |false=>rfl
   |true=>
    exfalso;unfold nJ at hp;rw[List.any_eq_true]at hp;obtain⟨i,_,hi⟩:=hp;rw[decide_eq_true_eq]at hi;apply hi;unfold eJ
    split
    ·rename_i hm;rw[h1 i hm];have:=hq after rfl i;unfold cH bEE;dsimp only;rw[if_neg (Oi this.lo),if_neg (Oi this.hi)]
    ·rfl
theorem aS0{g:Nat->Bool}{s q:St}(hs:OkS s)(hq:OkS q):OkS (wst g s q).1:=by
 cases s with
 |none=>exact OkS.none
 |some vs=>
  cases q with
  |none=>exact hs
  |some after=>
   refine OkS.some fun i=>?_;have h1:=hs vs rfl i;have h2:=hq after rfl i;unfold eJ
   split
   ·unfold cH;refine⟨?_,?_,?_⟩
    ·dsimp only;split
     ·omega
     ·exact h1.lo
    ·dsimp only;have a1:=h1.lo;have a2:=h1.le;have a3:=h1.hi
     split<;>split<;>omega
    ·dsimp only;split
     ·omega
     ·exact h1.hi
   ·exact h1
theorem aL7{g:Nat->Bool}{s q:St}(h:(wst g s q).2=true):∃ vs,(wst g s q).1=some vs:=by
 cases s with
 |none=>cases h
 |some vs=>
  cases q with
  |none=>cases h
  |some after=>exact⟨_,rfl⟩
theorem aKC{g:Nat->Bool}(h:OkS (some vs)):OkS (some (gL g vs)):=OkS.some fun i=>by
 unfold gL
 split
 ·exact bV.all
 ·exact h vs rfl i
theorem zF(op:Int)(a b:Sd):jW none op a b=none:=by
 have h1:∀ a l,jY none a l=none:=fun _ _=>rfl
 have h2:∀ a b far,jK none a b far=none:=fun a b far=>by
  unfold jK
  split
  ·rfl
  ·rw[h1,h1]
 have h3:jA none a b=none:=by
  unfold jA;simp only[h1,ite_self]
 unfold jW;simp only[h1,h2,h3,ite_self]
theorem vG:∀ (t:Tr) (F:Fl),(cdA lens fl t none F).1=none/\(cdA lens fl t none F).2.1=none:=by
 intro t
 induction t with
 |nil=>intro F;exact⟨rfl,rfl⟩
 |node b o a l q ihl ihq=>
  intro F;unfold cdA
  split
  ·exact⟨zF _ _ _,zF _ _ _⟩
  have e1:=ihl F
  split
  ·dsimp only;have e2:=ihq (cdA lens fl l none F).2.2;rw[e1.1,e1.2];exact⟨e2.1,by rw[e2.2];rfl⟩
  ·dsimp only;have e2:=ihq (cdA lens fl l none F).2.2;rw[e1.1,e1.2];exact⟨by rw[e2.1];rfl,e2.2⟩
theorem aM2:∀ (n:Nat) (t:Tr) (F:Fl),szT t<=n->(stA lens fl t none F).1=none:=by
 intro n
 induction n with
 |zero=>intro t F h;cases t<;>simp[szT]at h
 |succ n ih=>
  intro t F h0;cases t with
  |nil=>rfl
  |node b o a l q=>
   have hl:szT l<=n/\szT q<=n:=by simp only[szT]at h0;omega
   by_cases t20:a.tag=20\/a.tag=18
   ·rw[qT t20];exact ih l F hl.1
   by_cases t15:a.tag=15
   ·rw[sY t15,ih l F hl.1];exact ih q _ hl.2
   by_cases t9:a.tag=9
   ·rw[yF t9];rfl
   by_cases t10:a.tag=10
   ·rw[tD t10]
   by_cases t11:a.tag=11
   ·cases q with
    |nil=>rw[xM t11]
    |node b2 o2 z x y=>
     have hs:szT x<=n/\szT y<=n:=by have:=hl.2;simp only[szT]at this;omega
     rw[aUW t11,(vG l F).1,(vG l F).2,ih x _ hs.1,ih y _ hs.2];rfl
   by_cases t12:a.tag=12
   ·rw[aUV t12,aD0];have e:(wst (dR q) none (stA lens fl q (cdA lens fl l none F).1 (cdA lens fl l none F).2.2).1).2=false:=rfl;rw[e,if_neg Ob];exact(vG l F).2
   by_cases t13:a.tag=13
   ·rw[aUU t13]
   by_cases t14:a.tag=14
   ·rw[sZ t14]
   ·rw[aBR ⟨Oa,Oa,t15,Oa⟩]
theorem aIH{mb:Nat}{g:Nat->Bool}(h:LkW H lb pb kb vS nw c K w)(p o:Int)(hp:0<=p/\p<=9223372036854775807)(ho:0<=o/\o<=9223372036854775807)(h0:p≠o)(hd:K p=none->K o=none)(hm:eG mb g w):
 Calls Tryz.prog 317 #[.pointer (some ⟨lb,0,none⟩),.int .i64 p,.int .i64 o,.pointer (some ⟨mb,0,none⟩)] w fun e w'=>e= .returned (.bool (wst g (K p) (K o)).2)/\LkW H lb pb kb vS nw c (bEI K p (wst g (K p) (K o)).1) w'/\Fs H true w w':=by
 cases hK:K p with
 |some vs=>exact aP7 h p o hp ho h0 hK hm
 |none=>
  have hO:=hd hK;obtain⟨E,h⟩:=h;obtain⟨c0,c1,c2,c3,cf⟩:=cO h.blk;have lk:=(h.at_ o ho).1;rw[hO,h.dead o hO]at lk
  change (Instr.lookup 170 (.map (some kb)) (.int .i64 o) true).run Tryz.prog w= .ok (.tuple #[.pointer none,.bool false]) w at lk
  have FIN:Hid (LkW H lb pb kb vS nw c (bEI K p none) w):=⟨E,h.congr fun q=>(mK hK q).symm⟩;clear h hO hK hm;go_enter Tryz.func317,Tryz.ntmps317
  go_wp2;go_ret;exact⟨rfl,FIN.out,Fs.refl _ _ _⟩
end
section
open Go.RowKit Go.Lib Go.Deep Go.Maps Go.ChangeMaps Go.MapKept
variable {w0:World} {H pb lb kb vb xb nw nw' c c':Nat} {vS:Value} {K K':Kn} {S:Sl} {F F':Fl} {alive:Bool} {vs:Vr} {u w w':World} {m:Bool} {al fl:List Tr} {lens:Nat->Int}
def aQW:Array Value:=#[.bool false,.bool false,.bool false,.bool false,.bool false,.bool false,.bool false,.bool false,.bool false,.bool false,.bool false,.bool false]
theorem aKU(w:World):eG w.heap.size (fun _=>false) (w.alloc (.cells aQW 458)):=by
 refine⟨aQW,Qb w _,fun i hi=>?_⟩;have:i=0\/i=1\/i=2\/i=3\/i=4\/i=5\/i=6\/i=7\/i=8\/i=9\/i=10\/i=11:=Oa
 rcases this with rfl|rfl|rfl|rfl|rfl|rfl|rfl|rfl|rfl|rfl|rfl|rfl<;>rfl
theorem eG.fu{b:Nat}{g:Nat->Bool}(h:eG b g w)(hx:Fu H w w'):eG b g w':=by
 obtain⟨cs,hc,h1⟩:=h;exact⟨cs,hx.keep hc ⟨Ob,Ob,Ob⟩,h1⟩
structure aRG(w0:World)(pb lb kb:Nat)(vS:Value)(S:Sl)(g:Nat->Bool)(cc:St->Fl->St × St × Fl)(f:St->Fl->St × Fl)(p:Int)(nw C D:Nat)(K:Kn)(T:St × Fl)(mb:Nat)(w:World)(n round nw1 c1:Nat)(K1:Kn)(F1:Fl)(wr:World):Prop where
 res:T=whA g cc f n round (K1 p) F1
 sk:SkW w0 pb lb kb vS S F1 nw1 c1 K1 wr
 ge:nw<=nw1
 cs:c1+n*D<=C
 oth:∀ q:Int,q≠p->q<=(nw:Int)->K1 q=K q
 fu:Fu w0.heap.size w wr
 bw:eG mb g wr
 rd:n+round=5/\1<=n
 full:n=1->∀ vs,K1 p=some vs->∀ i,g i=true->vs i=bEE
theorem aPB{b o:Nat}{a:Nd}{l q:Tr}(ht:a.tag=12)(hi:IsT w0 (.node b o a l q))(hl:Ws 1 l/\GCd 269 w0 pb vS S al fl bCH l)(hq:Ws 4 q/\GSk 136 w0 pb vS S al fl bCH q)(hm:GM w0 q):GSk 271 w0 pb vS S al fl cB (.node b o a l q):=by
 intro lb kb F nw c K p w hp hc h
 have z3:mu (.node b o a l q)=4*(2+mu l+mu q):=by
  conv=>lhs;unfold mu
  rw[if_pos ht]
 obtain⟨y9,j6⟩:=hl;obtain⟨y8,j5⟩:=hq;obtain⟨ul,pl,z2⟩:=y9.val Ow;obtain⟨aq,cpq,k8⟩:=y8.lstval Ow
 obtain⟨m0,m1⟩:w0.cell? ⟨b,0,none⟩=some (bCH l)/\w0.cell? ⟨b,1,none⟩=some (bCH q):=by
  obtain⟨cs,y3,h0,h1⟩:=aI hi.2.2 (n:=12) ht;exact⟨Og y3 h0,Og y3 h1⟩
 rw[z2]at m0;rw[k8]at m1
 have k1:∀ F,(stA (bCG al) fl q (cdA (bCG al) fl l none F).1 (cdA (bCG al) fl l none F).2.2).1=none:=fun F=>by
  rw[(vG l F).1];exact aM2 _ q _ Ol
 have k5:∀ s G,OkS s->OkS (stA (bCG al) fl q s G).1:=fun s G hs=>aFO _ q Ol 4 s G Oa y8 hs;have k6:∀ s G,OkS s->OkS (cdA (bCG al) fl l s G).1:=fun s G hs=>(wO l s G y9 hs).1;rw[aUV ht,z3];rw[z3]at hc
 have d4:Hid (∀ (F1:Fl) (nw1 c1:Nat) (K1:Kn) (r:Int) (W:World) (s:St),K1 r=s->0<=r/\r<=(nw1:Int)->c1+2*mu l<=4611686018427387904->SkW w0 pb lb kb vS S F1 nw1 c1 K1 W->Calls Tryz.prog 269 #[.pointer (some ⟨lb,0,none⟩),.int .i64 r,.iface ul (.pointer (some pl))] W (aA8 w0 pb lb kb vS S r nw1 (c1+2*mu l) K1 (cdA (bCG al) fl l s F1) W)):=fun F1 nw1 c1 K1 r W s hs h1 h2 h3=>by
  have:=j6 lb kb F1 nw1 c1 K1 r W h1 h2 h3;rw[z2,hs]at this;exact this
 have d3:Hid (∀ (F1:Fl) (nw1 c1:Nat) (K1:Kn) (r:Int) (W:World) (s:St),K1 r=s->0<=r/\r<=(nw1:Int)->c1+2*mu q<=4611686018427387904->SkW w0 pb lb kb vS S F1 nw1 c1 K1 W->Calls Tryz.prog 136 #[.pointer (some ⟨lb,0,none⟩),.int .i64 r,.slice aq (aD q) cpq] W (pO w0 pb lb kb vS S r nw1 (c1+2*mu q) K1 (stA (bCG al) fl q s F1) W)):=fun F1 nw1 c1 K1 r W s hs h1 h2 h3=>by
  have:=j5 lb kb F1 nw1 c1 K1 r W h1 h2 h3;rw[k8,hs]at this;exact this
 show Calls Tryz.prog 271 #[.pointer (some ⟨lb,0,none⟩),.int .i64 p,.pointer (some ⟨b,0,none⟩)] w _;obtain⟨o1,y0⟩:∃ o1:Obj,o1= .cells aQW 458:=⟨_,rfl⟩;obtain⟨kA,bA,zA⟩:=qN w o1;have g0:eG w.heap.size (fun _=>false) (w.alloc o1):=by rw[y0];exact aKU w
 have SA:=h.new bA;have y4:=hm w.heap.size _ (w.alloc o1) h.size SA.low g0;rw[k8]at y4;have d1:=aE SA.low m1;have HS:Hid (SkW w0 pb lb kb vS S F nw c K w):=h;have k4:Hid (Below w.heap.size w (w.alloc o1)):=bA;have m3:Hid _:=m0;have m2:Hid _:=m1;have d5:Hid _:=k1;have g7:Hid _:=k5;have g8:Hid _:=k6;have hfew:=h.few;generalize mu l=ml at*;generalize mu q=mq at*;obtain⟨g,hg⟩:∃ g,g=dR q:=⟨_,rfl⟩;rw[<-hg]at y4 ⊢;obtain⟨cc,y5⟩:∃ cc,cc=cdA (bCG al) fl l:=⟨_,rfl⟩;obtain⟨f,y2⟩:∃ f,f=stA (bCG al) fl q:=⟨_,rfl⟩;rw[<-y5,<-y2];rw[<-y5,<-y2]at d5;rw[<-y5]at d4 g8;rw[<-y2]at d3 g7;obtain⟨T,hT⟩:∃ T,T=whA g cc f 4 1 (K p) F:=⟨_,rfl⟩;rw[<-hT];have HT:Hid (T=whA g cc f 4 1 (K p) F):=hT;unfold aQW at y0;clear k1 k5 k6 j6 j5 z2 k8 y9 y8 hm hi ht z3 m0 m1 h SA kA bA g0 hg y5 y2 hT;go_enter Tryz.func271,Tryz.ntmps271
 go_upto_region 1 with fail
 rw[<-y0];clear y0;generalize w.alloc o1=wA at*;go_wp2_with fail
 refine y4.mono ?_;rintro e W1 ⟨rfl,g3,x1⟩
 have bW:Below w.heap.size w W1:=by
  refine⟨x1.os.trans k4.out.os,x1.tape.trans k4.out.tape,x1.output.trans k4.out.output,Qa x1.size k4.out.size,fun k hk=>?_⟩;exact(x1.oth k Oa Oa).trans (k4.out.block k hk)
 have L0:aRG w0 pb lb kb vS S g cc f p nw (c+4*(2*(2+ml+mq))) (2*(2+ml+mq)) K T w.heap.size w 4 1 nw c K F W1:=
  ⟨HT.out,HS.out.new bW,Qc _,Qc _,fun _ _ _=>rfl,(Fs.of bW HS.out.size false).both,g3.eq fun i _=>Od,⟨rfl,Oa⟩,fun e=>Oa⟩
 clear g3 x1 bW y4 d1 k4 HS HT zA;obtain⟨DD,d7⟩:∃ DD,DD=2*(2+ml+mq):=⟨_,rfl⟩;rw[<-d7]at L0;go_wp2_with fail
 go_loopg [7] 4 (fun m v wr=>∃ n round nw1 c1 K1 F1,v= .int .i64 (round:Nat)/\n<=m/\aRG w0 pb lb kb vS S g cc f p nw (c+4*DD) DD K T w.heap.size w n round nw1 c1 K1 F1 wr)
 case atStart=>exact⟨4,1,nw,c,K,F,rfl,Qc _,L0⟩
 case round=>
  clear L0;obtain⟨n,round,nw1,c1,K1,F1,rfl,hm,LP⟩:=hrel;obtain⟨hrd,hn1⟩:=LP.rd;obtain⟨k,rfl⟩:∃ k,n=k+1:=⟨n - 1,Oa⟩;have hge:=LP.ge;have hf1:=LP.sk.few;have y3:=LP.cs;rw[Nat.succ_mul]at y3;have hkd:0<=k*DD:=Qe _;have k0:=LP.res;rw[aD0]at k0;have h4:k=0->(wst g (K1 p) (f (cc (K1 p) F1).1 (cc (K1 p) F1).2.2).1).2=false:=fun e=>aL8 (LP.full Oa) (g7.out _ _ (g8.out _ _ (LP.sk.ok p)));have j9:K1 p=none->(f (cc (K1 p) F1).1 (cc (K1 p) F1).2.2).1=none:=fun e=>by rw[e];exact d5.out F1
  have j7:=aNV LP.sk.lk p Oa Oa;have HX:Hid (cc (K1 p) F1=cc (K1 p) F1):=rfl;generalize hx:cc (K1 p) F1=x at*;generalize hy:f x.1 x.2.2=y at*;have d9:Hid (cc (K1 p) F1=x):=hx;have d8:Hid (f x.1 x.2.2=y):=hy;obtain⟨z,hz⟩:∃ z,wst g (K1 p) y.1=z:=⟨_,rfl⟩;rw[hz]at k0 h4;have HZ:Hid (wst g (K1 p) y.1=z):=hz;have HD:Hid (K1 p=none->y.1=none):=j9;have m4:Hid (k=0->z.2=false):=h4;have g6:Hid _:=k0;have h9:Hid _:=LP;have hrdI:0<=(round:Int)/\(round:Int)<=4:=Oa
  clear LP hx hy hz k0 h4 j9 HX;go_wp2_with fail
  refine j7.mono ?_;rintro e W2 ⟨rfl,h2,x2⟩;have S2:=h9.out.sk.step x2 h2 (eW h9.out.sk.ok (h9.out.sk.ok p) _);have z5:=d4.out F1 (nw1+1) (c1+2) _ ((nw1:Int)+1) W2 (K1 p) (bU _ _ _) Oa Oa S2;rw[d9.out]at z5;have d0:=aE S2.low m3.out;have U2:Hid (Fu w0.heap.size wr W2):=x2.both;clear S2 h2 x2 j7;go_wp2_with fail
  refine z5.mono ?_;rintro e W3 ⟨r2,nw3,K3,rfl,hr1,hr2,S3,e1,e2,e3,U3⟩;have z4:=d3.out x.2.2 nw3 (c1+2+2*ml) K3 ((nw1:Int)+1) W3 x.1 e1 Oa (Oi S3.few) S3;rw[d8.out]at z4;have d1:=aE S3.low m2.out;have hf3:=S3.few;have U3':Hid (Fu w0.heap.size wr W3):=U2.out.trans U3;have g4:Hid _:=e2;have z6:Hid _:=e3;clear S3 e1 e2 e3 U3 U2 z5 d0;go_wp2_with fail
  refine z4.mono ?_;rintro e W4 ⟨rfl,nw4,K4,j0,S4,g1,g2,U4⟩;have hf4:=S4.few;have k9:K4 p=K1 p:=by rw[g2 p Oa Oa,z6.out p Oa Oa,cE Oa]
  have d6:Hid (K4 (r2:Int)=x.2.1):=by rw[Hid,g2 (r2:Int) Oa Oa];exact g4.out
  have U4':Hid (Fu w0.heap.size wr W4):=U3'.out.trans U4;have z0:=aIH S4.lk p ((nw1:Int)+1) Oa Oa Oa (by rw[k9,g1];exact HD.out) (h9.out.bw.fu U4'.out);rw[k9,g1,HZ.out]at z0
  have z8:Hid (OkS z.1):=by
   rw[Hid,<-HZ.out,<-k9,<-g1];exact aS0 (S4.ok p) (S4.ok _)
  have g5:Hid _:=S4
  have d2:Hid (∀ q:Int,q≠p->q<=(nw:Int)->K4 q=K q):=fun q h1 h2=>by
   rw[g2 q Oa Oa,z6.out q Oa Oa,cE Oa];exact h9.out.oth q h1 h2
  clear S4 g1 g2 U4 z4 d1 k9 U3' g4 z6;go_wp2_with fail
  refine z0.mono ?_;rintro e W5 ⟨rfl,h5,x5⟩;have S5:=g5.out.step x5 h5 (eW g5.out.ok z8.out p);have y1:=wG S5.lk ((nw1:Int)+1) Oa;have y7:Hid _:=S5;have U5:Hid (Fu w0.heap.size wr W5):=U4'.out.trans x5.both;clear S5 h5 x5 z0;obtain⟨z1,ch⟩:=z;dsimp only at*;cases ch
  ·have y6:Hid (T=(x.2.1,y.2)):=by
    have:=g6.out;rw[if_neg Ob]at this;exact this
   go_wp2_with fail
   refine y1.mono ?_;rintro e W6 ⟨rfl,h6,x6⟩;have S6:=y7.out.step x6 h6 (eW y7.out.ok OkS.none _);have k3:=wG S6.lk p Oa;have k7:Hid _:=S6;have U6:Hid (Fu w0.heap.size wr W6):=U5.out.trans x6.both;clear S6 h6 x6 y1;go_wp2_with fail
   refine k3.mono ?_;rintro e W7 ⟨rfl,h7,x7⟩;have S7:=k7.out.step x7 h7 (eW k7.out.ok OkS.none p);have hj:=aC4 S7.lk p (r2:Int) Oa Oa Oa Oa;have k2:Hid _:=S7;have U7:Hid (Fu w0.heap.size wr W7):=U6.out.trans x7.both;clear S7 h7 x7 k3;go_wp2_with fail
   refine hj.mono ?_;rintro e W8 ⟨rfl,h8,x8⟩
   have FIN:Hid (pO w0 pb lb kb vS S p nw (c+2*(4*(2+ml+mq))) K T w (.returned (.tuple #[])) W8):=by
    have S8:=k2.out.step x8 h8 (eW (eW k2.out.ok OkS.none _) (nP (k2.out.ok p) (k2.out.ok _)) p);rw[y6.out];refine⟨rfl,nw4,_,Oa,S8.mono Oa hc,?_,fun q h1 h2=>?_,h9.out.fu.trans (U7.out.trans x8.both)⟩
    ·rw[bU,bU,cE Oa,cE Oa,cE Oa,d6.out];cases x.2.1<;>rfl
    ·rw[cE h1,cE Oa,cE h1,cE Oa,cE h1];exact d2.out q h1 h2
   clear h8 x8 hj;go_wp2;go_end0
   exact FIN.out
  ·have y6:Hid (T=whA g cc f k (round+1) (if round=3 then z1.map (gL g)else z1) y.2):=by
    have:=g6.out;rw[if_pos rfl]at this;exact this
   have j4:1<=k:=by
    rcases Nat.eq_zero_or_pos k with h|h
    ·have:=m4.out h;cases this
    ·exact h
   obtain⟨vz,z9⟩:∃ vs,z1=some vs:=by
    have:=aL7 (g:=g) (s:=K1 p) (q:=y.1) (by rw[HZ.out]);rw[HZ.out]at this;exact this
   have z7:Hid (z1=some vz):=z9;clear z9;obtain⟨m,rfl⟩:=Oj gk;go_wp2_with fail
   refine y1.mono ?_;rintro e W6 ⟨rfl,h6,x6⟩;have S6:=y7.out.step x6 h6 (eW y7.out.ok OkS.none _);have k3:=wG S6.lk (r2:Int) Oa;have k7:Hid _:=S6;have U6:Hid (Fu w0.heap.size wr W6):=U5.out.trans x6.both;clear S6 h6 x6 y1;go_wp2_with fail
   refine k3.mono ?_;rintro e W7 ⟨rfl,h7,x7⟩;have S7:=k7.out.step x7 h7 (eW k7.out.ok OkS.none (r2:Int));have k2:Hid _:=S7;have U7:Hid (Fu w0.heap.size wr W7):=U6.out.trans x7.both;have e7:bEI (bEI (bEI K4 p z1) ((nw1:Int)+1) none) (r2:Int) none p=z1:=by rw[cE Oa,cE Oa,bU]
   have HE7:Hid _:=e7
   have g9:Hid (∀ q:Int,q≠p->q<=(nw:Int)->bEI (bEI (bEI K4 p z1) ((nw1:Int)+1) none) (r2:Int) none q=K q):=fun q h1 h2=>by
    rw[cE Oa,cE Oa,cE h1];exact d2.out q h1 h2
   by_cases j3:round=3
   ·have j8:=aNW S7.lk p Oa (by rw[e7];exact z7.out) (h9.out.bw.fu U7.out);have j2:(round:Int)=3:=Oa
    clear S7 h7 x7 k3 e7;go_wp2_with fail
    refine j8.mono ?_;rintro e W8 ⟨rfl,h8,x8⟩
    have fin:∃ n round' nw1 c1 K1 F1,Value.int .i64 ((round:Int)+1)= .int .i64 ((round':Nat):Int)/\n<=m/\aRG w0 pb lb kb vS S g cc f p nw (c+4*DD) DD K T w.heap.size w n round' nw1 c1 K1 F1 W8:=by
     refine⟨k,round+1,nw4,c1+2+2*ml+2*mq,bEI (bEI (bEI (bEI K4 p z1) ((nw1:Int)+1) none) (r2:Int) none) p (some (gL g vz)),y.2,Od,Oa,?_,k2.out.step x8 h8 (eW k2.out.ok (aKC (by rw[<-z7.out];exact z8.out)) p),Oa,Oa,fun q h1 h2=>?_,h9.out.fu.trans (U7.out.trans x8.both),h9.out.bw.fu (U7.out.trans x8.both),⟨Oa,j4⟩,fun _ vs j1 i hi=>?_⟩
     ·rw[bU,y6.out,if_pos j3,z7.out];rfl
     ·rw[cE h1];exact g9.out q h1 h2
     ·rw[bU]at j1;cases j1;unfold gL;rw[if_pos hi]
    rw[j2]at fin;clear h8 x8 j8;go_wp2;go_roundg m
    case rel=>exact fin
    case measure=>omega
   ·have j2: ¬(round:Int)=3:=Oa
    have fin:∃ n round' nw1 c1 K1 F1,Value.int .i64 ((round:Int)+1)= .int .i64 ((round':Nat):Int)/\n<=m/\aRG w0 pb lb kb vS S g cc f p nw (c+4*DD) DD K T w.heap.size w n round' nw1 c1 K1 F1 W7:=by
     refine⟨k,round+1,nw4,c1+2+2*ml+2*mq,bEI (bEI (bEI K4 p z1) ((nw1:Int)+1) none) (r2:Int) none,y.2,Od,Oa,?_,S7,Oa,Oa,g9.out,h9.out.fu.trans U7.out,h9.out.bw.fu U7.out,⟨Oa,j4⟩,fun e=>Oa⟩;rw[e7,y6.out,if_neg j3]
    clear S7 h7 x7 k3 e7;go_wp2;go_roundg m
    case rel=>exact fin
    case measure=>omega
end
section
open Go.RowKit Go.Lib Go.Deep Go.Maps Go.ChangeMaps Go.MapKept
variable {w0:World} {H pb lb kb vb xb nw nw' c c':Nat} {vS:Value} {K K':Kn} {S:Sl} {F F':Fl} {alive:Bool} {vs:Vr} {u w w':World} {m:Bool} {al fl:List Tr} {lens:Nat->Int} {par:Nat->Option Nat} {na:Nat}
def aH0(S:Sl)(t:Tr):Prop:=∀ k∈bEK t,∃ s:Nat,k=s/\s < S.length
theorem aH0.parts{b o:Nat}{a:Nd}{l q:Tr}(h:aH0 S (.node b o a l q)):aH0 S l/\aH0 S q/\(dM a=true->∃ s:Nat,a.site=s/\s < S.length):=
 ⟨fun k hk=>h k (fR hk),fun k hk=>h k (gK hk),fun e=>h _ (pG e)⟩
theorem aOX(hp:PgX pb al fl w0){t:Tr}(h:Ws 21 t)(hi:IsT w0 t)(hv:Vd par na 12 t):GV 260 w0 pb vS S al fl bCH t:=by
 have h0:=aBJ h;cases t with
 |nil=>exact absurd h (by unfold Ws bK;omega)
 |node b o a l q=>
  obtain⟨_,x,y,h2,_⟩:=h.parts
  have h1:a.tag<=1:=by
   by_cases h1:a.tag<=1
   ·exact h1
   ·exfalso;simp[sig,h1]at h2
  exact aO2 hp h0 hi (fun k=>by have:=hv.2.2.1 (.inl k);omega) (fun k=>Oa) (fun k=>Oa) (fun k=>Oa) (fun k=>Oa)
theorem aPD(hp:PgX pb al fl w0):∀ (L:Tr),Ws 15 L->IsT w0 L->Vd par na 12 L->fE (fun x=>Ws 20 x/\G2 w0 pb vS S al fl x) L:=by
 intro L
 induction L with
 |nil=>intro _ _ _;trivial
 |node b o a e r _ ih=>
  intro hw hi hv;obtain⟨h3,h1,h2⟩:=aY Ov hw;refine⟨h3,⟨h1,?_⟩,ih h2 hi.2.1 hv.2.1⟩;have h1:Ws 20 e:=h1;cases e with
  |nil=>exact absurd h1 (by unfold Ws bK;omega)
  |node b o a l q=>
   obtain⟨ha,x,y,h0,hl,hq⟩:=h1.parts
   have h7:a.tag=7:=by
    by_cases h:a.tag=7
    ·exact h
    ·exfalso;simp[sig,h]at h0
   rw[h7]at h0;cases h0;exact⟨aOX hp hl hi.1.1 hv.1.1,aOX hp hq hi.1.2.1 hv.1.2.1⟩
theorem xW(hp:PgX pb al fl w0){p:Tr}(hw:Ws 5 p)(hi:IsT w0 p)(hv:Vd par na 12 p):fE (fun x=>Ws 20 x/\G2 w0 pb vS S al fl x) (bCF p):=by
 refine aPD (par:=par) (na:=na) hp _ (hw.elems Ov) ?_ ?_
 ·cases p with
  |nil=>trivial
  |node b o a l r=>exact hi.1
 ·cases p with
  |nil=>trivial
  |node b o a l r=>exact hv.1
theorem wT{e:Tr}(h:IsT w0 e):IsT w0 (aU e)/\IsT w0 (bG e):=by
 cases e with
 |nil=>exact⟨trivial,trivial⟩
 |node b o a l r=>
  cases r with
  |nil=>exact⟨trivial,trivial⟩
  |node x y z p q=>exact⟨h.2.1.1,h.2.1.2.1⟩
theorem aQ7(hp:PgX pb al fl w0)(hF:aCS par na al fl):∀ (n:Nat) (t:Tr),szT t<=n->Vd par na 12 t->IsT w0 t->aH0 S t->
 (Ws 0 t->GV 260 w0 pb vS S al fl bCH t)/\(Ws 1 t->GCd 269 w0 pb vS S al fl bCH t)/\(Ws 2 t->GSk 207 w0 pb vS S al fl bCH t/\GMs w0 t)/\(Ws 4 t->GSk 136 w0 pb vS S al fl bCH t/\GM w0 t)/\
 (Ws 13 t->fE (fun e=>Ws 0 e/\GV 260 w0 pb vS S al fl bCH e) t)/\(Ws 14 t->fE (fun e=>Ws 2 e/\GSk 207 w0 pb vS S al fl bCH e) t/\fE (fun e=>Ws 2 e/\GMs w0 e) t):=by
 intro n
 induction n with
 |zero=>intro t h;cases t<;>simp[szT]at h
 |succ n ih=>
  intro t k3 hv hi k4;cases t with
  |nil=>
   refine⟨fun h=>absurd h (by unfold Ws bK;omega),fun h=>absurd h (by unfold Ws bK;omega),fun h=>absurd h (by unfold Ws bK;omega),fun h=>?_,fun _=>trivial,fun _=>⟨trivial,trivial⟩⟩;exact⟨aI7 h trivial trivial,aE7 h trivial trivial⟩
  |node b o a l r=>
   have hl:szT l<=n/\szT r<=n:=by simp only[szT]at k3;omega
   obtain⟨sl,sr,so⟩:=k4.parts;have hv0:=hv;obtain⟨vl,vr,v1,v2,v3⟩:=hv;have IL:=ih l hl.1 vl hi.1 sl;have IR:=ih r hl.2 vr hi.2.1 sr
   have elemsOf:Ws 3 l->fE (fun e=>Ws 0 e/\GV 260 w0 pb vS S al fl bCH e) (bCF l):=by
    intro hw;rcases hw.lst (.inl rfl)with rfl|⟨b2,o2,a2,l2,rfl,k5,h8⟩
    ·trivial
    ·have h9:szT l2<=n:=by have:=hl.1;simp only[szT]at this;omega
     exact(ih l2 h9 vl.1 hi.1.1 sl.parts.1).2.2.2.2.1 h8
   have ar:=hF.arrs
   have own2:a.tag=2\/a.tag=10->∃ s:Nat,a.site=s/\s < S.length:=fun h=>so (by
    unfold dM;rcases h with h|h<;>simp[h])
   have arr2:a.tag=2\/a.tag=10->∃ k:Nat,a.which=k/\k < al.length:=fun h=>by
    have:=v2 h;exact⟨a.which.toNat,Oa,Oa⟩
   refine⟨fun hw=>?_,fun hw=>?_,fun hw=>?_,fun hw=>?_,fun hw=>?_,fun hw=>?_⟩
   ·obtain⟨h4,x,y,h0,h1,h2⟩:=hw.parts;refine aO2 hp hw hi (fun hk=>by have:=v1 (.inl hk);omega) (fun hk=>?_) (fun hk=>⟨arr2 (.inl hk),own2 (.inl hk)⟩) (fun hk=>?_) (fun hk=>?_)
    ·have:x=0:=by rcases hk with h|h|h<;>rw[h]at h0<;>cases h0<;>rfl
     subst this;exact⟨h1,IL.1 h1⟩
    ·have:x=3:=by rw[hk]at h0;cases h0;rfl
     subst this;obtain⟨k1,k2⟩:=v3 hk;obtain⟨p4,e0,he⟩:=hF.pars _ _ k2;obtain⟨f1,f2,f3,f4⟩:=hF.fns e0 (Qi he);refine aTE hp hk hi h1 (j:=a.which.toNat) Oa he p4 (elemsOf h1) f1 (xW hp f1 (wT (hp.fns e0 (Qi he))).1 f3) ?_
     by_cases hs:a.site= -1
     ·exact .inl hs
     ·exact .inr (so (by unfold dM;simp[hk,hs]))
    ·rw[hk]at h0;cases h0
     exact aOU hk (h4.op6 hk) hi ⟨h1,IL.1 h1⟩ ⟨h2,IR.1 h2⟩ (fun h30=>so (by
      unfold dM;have e:a.op≠27/\a.op≠28/\a.op≠29:=Oa
      simp[hk,e]))
   ·obtain⟨h4,x,y,h0,h1,h2⟩:=hw.parts;refine aT8 hw (fun hk=>?_) (fun hk=>?_)
    ·rw[hk]at h0;cases h0;exact aKM hk (h4.op7 hk) hi vl vr ⟨h1,IL.1 h1⟩ ⟨h2,IR.1 h2⟩
    ·rw[hk]at h0;cases h0;exact aQM hk (h4.op8 hk) hi ⟨h1,IL.2.1 h1⟩ ⟨h2,IR.2.1 h2⟩
   ·obtain⟨h4,x,y,h0,h1,h2⟩:=hw.parts;obtain⟨t1,t2⟩:=jR hw;have tags:a.tag=9\/a.tag=10\/a.tag=11\/a.tag=12\/a.tag=13\/a.tag=14:=Oa
    rcases tags with hk|hk|hk|hk|hk|hk
    ·rw[hk]at h0;cases h0;have hb:=v1 (.inr hk);exact⟨aPR hk Oa hi ⟨h1,IL.1 h1⟩,fun _=>Oa,fun h=>Oa,fun h=>Oa⟩
    ·rw[hk]at h0;cases h0;obtain⟨k,e1,e2⟩:=arr2 (.inr hk);obtain⟨s,e3,e4⟩:=own2 (.inr hk);exact⟨aLS hp hk hi e1 e2 e3 e4 ⟨h1,IL.1 h1⟩ ⟨h2,IR.1 h2⟩,fun h=>Oa,fun h=>Oa,fun h=>Oa⟩
    ·rw[hk]at h0;cases h0;cases r with
     |nil=>exact absurd h2 (by unfold Ws bK;omega)
     |node x y z p q=>
      obtain⟨_,sp,sq,k0,h7,h6⟩:=h2.parts
      have hz:z.tag=18:=by
       by_cases h:z.tag=18
       ·exact h
       ·exfalso;simp[sig,h]at k0
      rw[hz]at k0;cases k0;have hs:szT p<=n/\szT q<=n:=by have:=hl.2;simp only[szT]at this;omega
      have IP:=(ih p hs.1 vr.1 hi.2.1.1 sr.parts.1).2.2.2.1 h7;have IQ:=(ih q hs.2 vr.2.1 hi.2.1.2.1 sr.parts.2.1).2.2.2.1 h6;exact⟨aLR hk hz hi ⟨h1,IL.2.1 h1⟩ ⟨h7,IP.1⟩ ⟨h6,IQ.1⟩,fun h=>Oa,fun _=>⟨x,y,z,p,q,rfl,hz,h7,h6,IP.2,IQ.2⟩,fun h=>Oa⟩
    ·rw[hk]at h0;cases h0;have IQ:=IR.2.2.2.1 h2;exact⟨aLQ hk (aPB hk hi ⟨h1,IL.2.1 h1⟩ ⟨h2,IQ.1⟩ IQ.2),fun h=>Oa,fun h=>Oa,fun _=>⟨h2,IQ.2⟩⟩
    ·rw[hk]at h0;cases h0;exact⟨aLP hk hi ⟨h1,IL.1 h1⟩,fun h=>Oa,fun h=>Oa,fun h=>Oa⟩
    ·rw[hk]at h0;cases h0;exact⟨aLO hk hi ⟨h1,IL.1 h1⟩,fun h=>Oa,fun h=>Oa,fun h=>Oa⟩
   ·obtain⟨b2,o2,a2,l2,e,k5,h8⟩:=(hw.lst Ow).resolve_left (by intro h;cases h);simp only[BT.node.injEq]at e;obtain⟨rfl,rfl,rfl,rfl,rfl⟩:=e;have I2:=IL.2.2.2.2.2 h8;exact⟨aI7 hw hi I2.1,aE7 hw hi I2.2⟩
   ·obtain⟨h5,h3,h2⟩:=aY Ox hw;exact⟨h5,⟨h3,IL.1 h3⟩,IR.2.2.2.2.1 h2⟩
   ·obtain⟨h5,h3,h2⟩:=aY Ow hw;have I1:=IL.2.2.1 h3;have I2:=IR.2.2.2.2.2 h2;exact⟨⟨h5,⟨h3,I1.1⟩,I2.1⟩,h5,⟨h3,I1.2⟩,I2.2⟩
end
end Go.Proofs.YtikffmloeifkpaaGreatDoor
