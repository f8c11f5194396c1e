/- Contracts. -/
import Derived.Test.YtikffmloeifkpaaGreatDoorZKps
import Derived.Test.YtikffmloeifkpaaGreatDoorP40
import Derived.Test.YtikffmloeifkpaaGreatDoorP24
namespace Go.Proofs.YtikffmloeifkpaaGreatDoor
open Go.RowKit Go.Lib Go.Deep Go.Maps Go.ChangeMaps Go.MapKept
theorem aUR(n:Nat)(hn:n < 100)(w:World):Calls Tryz.prog 28 #[.int .i64 n] w fun e w'=>∃ d,e= .returned (.string d)/\Hid (d=⟨(fW n).toArray⟩)/\d.size<=2/\Below w.heap.size w w':=
 (aVK n hn w).mono fun _ _ ⟨h1,h2⟩=>⟨_,h1,rfl,aUP n,h2⟩
def tA(d e:ByteArray):ByteArray:=⟨aVD.toArray⟩++d++⟨aVC.toArray⟩++d++⟨aVB.toArray⟩++e++⟨aVA.toArray⟩
def tB(d m e:ByteArray):ByteArray:=⟨aV9.toArray⟩++d++⟨aV8.toArray⟩++d++⟨aV7.toArray⟩++m++⟨aV6.toArray⟩++e++⟨aV5.toArray⟩
def tC(d e:ByteArray):ByteArray:=⟨aV4.toArray⟩++d++⟨aV3.toArray⟩++d++⟨aV2.toArray⟩++e++⟨aV1.toArray⟩
theorem aW8(n s:Nat):tA ⟨(fW n).toArray⟩ ⟨(fW s).toArray⟩=txA n s:=by
 apply ByteArray.ext;unfold tA txA;simp only[ByteArray.data_append];apply Array.ext';simp
theorem aW7(n s:Nat):tB ⟨(fW n).toArray⟩ ⟨(fW (n - 1)).toArray⟩ ⟨(fW s).toArray⟩=txB n s:=by
 apply ByteArray.ext;unfold tB txB;simp only[ByteArray.data_append];apply Array.ext';simp
theorem aW6(n s:Nat):tC ⟨(fW n).toArray⟩ ⟨(fW s).toArray⟩=txC n s:=by
 apply ByteArray.ext;unfold tC txC;simp only[ByteArray.data_append];apply Array.ext';simp
theorem aVP{n s:Nat}{x a:Int}{k i:Nat}(h: ¬i < n):aUT n s x k i a=a:=by
 cases k with
 |zero=>rfl
 |succ k=>exact if_neg h
theorem aVM{n s:Nat}{x a:Int}{k i:Nat}(h:i < n):aUT n s x (k+1) i a=aUT n s x k (i+s) (w64 (a+w64 ((i:Int)*x))):=if_pos h
def ttx(d m e1 e2 e3:ByteArray)(J:Nat):ByteArray:=if J=0 then tA d e1 else if J=1 then tB d m e2 else tC d e3
theorem aW1{N S J:Nat}{d m e1 e2 e3:ByteArray}(hn:1<=N/\N<=64)(hs:1<=S/\S<=9)(hd:d=⟨(fW N).toArray⟩)(hm:m=⟨(fW (N - 1)).toArray⟩)(h1:e1=⟨(fW S).toArray⟩)(h2:e2=⟨(fW S).toArray⟩)(h3:e3=⟨(fW S).toArray⟩):aVW (ttx d m e1 e2 e3 J) N S:=by
 subst hd hm h1 h2 h3;unfold ttx
 split
 ·rw[aW8];exact plA hn hs
 ·split
  ·rw[aW7];exact plB hn hs
  ·rw[aW6];exact plC hn hs
set_option maxRecDepth 100000 in
set_option maxHeartbeats 16000000 in
theorem aVO(a b f k:Int)(w:World)(ht:Tab w)(ha:-9223372036854775808<=a/\a<=9223372036854775807)(hb:-9223372036854775808<=b/\b<=9223372036854775807)(hk:-9223372036854775808<=k/\k<=9223372036854775807):
 Calls Tryz.prog 9 #[.int .i64 a,.int .i64 b,.int .i64 f,.int .i64 k] w fun e w'=>e= .returned (.bool true)/\Below w.heap.size w w':=by
 have h0:=aBP ht;have hs:=aLH w ht;have HT:Hid (Tab w):=ht;have z4:Hid _:=fun w=>aMU a 64 w ha (by decide);have z3:Hid _:=fun w=>aMU b 9 w hb (by decide);have z2:Hid _:=fun w=>aMU k 3 w hk (by decide);clear ht;go_enter Tryz.func9,Tryz.ntmps9
 go_wp2_with fail
 refine hs.mono ?_;rintro e W1 ⟨rfl,b1⟩;have j4:Hid _:=b1;clear hs b1;go_wp2_with fail
 refine(z4.out _).mono ?_;rintro e W2 ⟨⟨n,rfl,n0,n1,_⟩,rfl⟩;obtain⟨N,hN⟩:∃ N:Nat,1+n=(N:Int):=⟨(1+n).toNat,by omega⟩;have g0:1<=N/\N<=64:=by omega
 clear z4;go_wp2_with fail
 refine(z3.out _).mono ?_;rintro e W3 ⟨⟨s,rfl,s0,s1,_⟩,rfl⟩;obtain⟨S,hS⟩:∃ S:Nat,1+s=(S:Int):=⟨(1+s).toNat,by omega⟩;have j9:1<=S/\S<=9:=by omega
 clear z3;go_wp2_with fail
 refine(aUR N (by omega) W1).mono ?_;rintro e W4 ⟨d,rfl,hd,dz,b4⟩;have j2:Hid (Below w.heap.size w W4):=j4.out.trans (b4.mono j4.out.size);have hM:(N:Int) - 1=((N - 1:Nat):Int):=by omega
 clear b4;go_wp2_with fail
 refine(aUR S (by omega) W4).mono ?_;rintro e W5 ⟨e1,rfl,y7,ez1,b5⟩;have j1:Hid (Below w.heap.size w W5):=j2.out.trans (b5.mono j2.out.size);clear b5;go_wp2_with fail
 refine(aUR (N - 1) (by omega) W5).mono ?_;rintro e W6 ⟨m,rfl,hm,mz,b6⟩;have z9:Hid (Below w.heap.size w W6):=j1.out.trans (b6.mono j1.out.size);clear b6;go_wp2_with fail
 refine(aUR S (by omega) W6).mono ?_;rintro e W7 ⟨e2,rfl,y6,ez2,b7⟩;have z8:Hid (Below w.heap.size w W7):=z9.out.trans (b7.mono z9.out.size);clear b7;go_wp2_with fail
 refine(aUR S (by omega) W7).mono ?_;rintro e W8 ⟨e3,rfl,y5,ez3,b8⟩;have z7:Hid (Below w.heap.size w W8):=z8.out.trans (b8.mono z8.out.size);clear b8;go_upto_region 6 with fail
 generalize y1:W8.alloc _=WG
 have h9:WG.heap[W8.heap.size]?=some (.cells #[.string (tA d e1),.string (tB d m e2),.string (tC d e3)] 9 (0,0)):=by
  rw[<-y1];exact heap_alloc_new W8 _
 have k3:Hid (Below w.heap.size w WG):=by
  rw[<-y1];exact z7.out.alloc z7.out.size _
 have h4:∀ J:Nat,J < 3->WG.cell? ⟨W8.heap.size,J,none⟩=some (.string (ttx d m e1 e2 e3 J)):=by
  intro J hJ;have h3:J=0\/J=1\/J=2:=by omega
  rw[cell_of_row _ _ _ _ _ _ h9];rcases h3 with rfl|rfl|rfl<;>rfl
 have HC:Hid _:=h4;clear h9 h4 y1;go_wp2_with fail
 refine(z2.out _).mono ?_;rintro e WH ⟨⟨j,rfl,j0,j3,_⟩,rfl⟩;obtain⟨J,rfl⟩:∃ J:Nat,j=(J:Int):=⟨j.toNat,by omega⟩;have hJ:0<=(J:Int)/\(J:Int) < 3:=by omega
 have cJ:=HC.out J (by omega);have h7:Hid (aVW (ttx d m e1 e2 e3 J) N S):=aW1 g0 j9 hd.out hm.out y7.out y6.out y5.out;generalize ttx d m e1 e2 e3 J=T at*;have hr:=aA6 T WG (HT.out.below k3.out h0) (by have:=h7.out.size;unfold maxLen;omega);clear z2 HC hd hm y7 y6 y5;go_wp2_with fail
 refine hr.mono ?_;rintro e Wr ⟨br,h5⟩;replace h5:=h5.resolve_left (fun h=>h.1 h7.out.read);obtain⟨hc,ab,rfl,hp⟩:=h5;obtain⟨oF,y2⟩:∃ o:Obj,o= .cells #[.int .i64 0,.int .i64 0] 37:=⟨_,rfl⟩;have z6:Hid (Below w.heap.size w (Wr.alloc oF)):=(k3.out.trans (br.mono k3.out.size)).alloc (by have:=k3.out.size;have:=br.size;omega) _;have k6:=hp.next (w':=Wr.alloc oF) (fun i hi=>Below.heap_alloc _ _ _ hi);have y9:=tY k6 hc;have z1:Hid (PgW ab T (Wr.alloc oF)):=k6;have g2:Hid ((eZ T).1=0):=hc;clear hp k6 hc br cJ;go_upto_region 7 with fail
 rw[<-y2];clear y2;generalize Wr.alloc oF=WF at*;go_wp2_with fail
 refine y9.mono ?_;rintro e WS ⟨vl,rfl,y4,bS⟩;obtain⟨gl,cl,rfl,hgl,_,y8⟩:=y4.row (by have:=h7.out.len;omega);have z5:Hid (Below w.heap.size w WS):=z6.out.trans (bS.mono z6.out.size);have g3:Hid (PgW ab T WS):=z1.out.next (fun i hi=>bS.block i hi)
 have z0:Hid (∀ i (hi:i < (fS T).length),WS.cell? ⟨gl,i*3+2,none⟩=some (.bool true)):=fun i hi=>by
  rw[(y8 i hi).2.2,h7.out.sure i hi]
 have g4:Hid (1 < (fS T).length/\(fS T).length<=3):=h7.out.len;have k1:Hid (kM T [f] 20000=⟨1,aUT N S f 65 0 0,-1,[]⟩):=h7.out.run f;clear y9 y4 bS y8 h7 z1;generalize (fS T).length=L at*;have hL:1 < L/\L<=3:=g4.out;go_wp2_with fail
 go_loopg [17] L (fun m v wr=>∃ i:Nat,v= .int .i64 i/\i<=L/\L<=i+m/\WS=wr)
 case atStart=>exact⟨0,rfl,Nat.zero_le _,by omega,rfl⟩
 case round=>
  obtain⟨i,rfl,j6,j5,k4⟩:=hrel;subst k4
  by_cases y3:i < L
  ·have k9:(i:Int) < (L:Int):=by omega
   have hiI:0<=(i:Int)/\(i:Int) < (L:Int):=by omega
   have ci:=z0.out i y3;obtain⟨m',rfl⟩:∃ m,gk=m+1:=⟨gk - 1,by omega⟩;go_wp2_with fail
   go_roundg m'
   case rel=>exact⟨i+1,by simp,by omega,by omega,rfl⟩
   case measure=>omega
  ·have k9: ¬(i:Int) < (L:Int):=by omega
   clear j6 j5 y3;go_wp2_with fail
   go_loopg [18,19] 65 (fun m v x wr=>∃ (i:Nat) (z:Int),v= .int .i64 z/\x= .int .i64 i/\i<=80/\65<=i+m/\aUT N S f m i z=aUT N S f 65 0 0/\WS=wr)
   case atStart=>exact⟨0,0,rfl,rfl,by omega,by omega,rfl,rfl⟩
   case round=>
    obtain⟨i,z,rfl,rfl,j8,j7,h2,k4⟩:=hrel;subst k4
    by_cases h6:i < N
    ·have k0:(i:Int) < (N:Int):=by omega
     obtain⟨m',rfl⟩:∃ m,gk=m+1:=⟨gk - 1,by omega⟩;have g1:Hid (aUT N S f m' (i+S) (w64 (z+w64 ((i:Int)*f)))=aUT N S f 65 0 0):=(aVM h6).symm.trans h2;clear h2;go_wp2_with fail
     go_roundg m'
     case rel=>exact⟨i+S,_,rfl,by simp,by omega,by omega,g1.out,rfl⟩
     case measure=>omega
    ·have k0: ¬(i:Int) < (N:Int):=by omega
     have hz:z=aUT N S f 65 0 0:=(aVP h6).symm.trans h2;have HX:Hid (kM T [f] 20000=⟨1,z,-1,[]⟩):=by rw[Hid,k1.out,hz]
     obtain⟨o1,k8⟩:∃ o1:Obj,o1= .cells #[.int .i64 f] 2:=⟨_,rfl⟩;have n1:∀ i,i < WS.heap.size->(WS.alloc o1).heap[i]?=WS.heap[i]?:=fun i hi=>Below.heap_alloc _ _ _ hi
     have a1:xK (WS.alloc o1) (.slice (some ⟨WS.heap.size,0,none⟩) 1 1) [f]:=by
      refine aF8 (cs:=#[.int .i64 f]) (t:=2) ?_ rfl rfl;rw[k8];exact heap_alloc_new WS _
     have k5:=aA5 (g3.out.next n1) g2.out a1 20000;rw[HX.out]at k5;have h8:Hid (Below w.heap.size w (WS.alloc o1)):=z5.out.alloc z5.out.size _;clear n1 a1 hz h2 h6 j8 j7 HX k1 z0;go_wp2_with fail
     rw[<-k8];clear k8;generalize WS.alloc o1=Wb at*;refine k5.mono ?_;rintro e W2 hpost;obtain⟨va,rfl,hx,b2⟩:=hpost.rs;obtain⟨vO,rfl,h1⟩:=hx
     obtain⟨xo,xp,rfl,h1⟩:∃ a p,vO= .slice a 0 p/\aCR W2 vO []:=by
      obtain⟨ao,cp,e,h⟩:=h1;exact⟨ao,cp,e,⟨ao,cp,e,h⟩⟩
     obtain⟨oA,k7⟩:∃ o:Obj,o= .cells #[.int .i64 1,.int .i64 z,.int .i64 (-1),.slice xo 0 xp] 42:=⟨_,rfl⟩
     have kA:(W2.alloc oA).heap[W2.heap.size]?=some (.cells #[.int .i64 1,.int .i64 z,.int .i64 (-1),.slice xo 0 xp] 42 (0,0)):=by
      rw[k7];exact heap_alloc_new W2 _
     have ra:R4W (W2.alloc oA) ⟨1,z,-1,[]⟩ (.agg #[.int .i64 1,.int .i64 z,.int .i64 (-1),.slice xo 0 xp]):=⟨_,rfl,h1.next (fun i hi=>Below.heap_alloc _ _ _ hi)⟩;have y0:=aNS ⟨1,z,-1,[]⟩ _ true z 0 (W2.alloc oA) ra;rw[show isB ⟨1,z,-1,[]⟩ true z 0=true by simp[isB]]at y0;have k2:Hid (Below w.heap.size w (W2.alloc oA)):=(h8.out.trans (b2.mono h8.out.size)).alloc (by have:=h8.out.size;have:=b2.size;omega) _;clear hpost h1 b2 k5 ra;go_upto_region 21 with fail
     rw[<-k7];clear k7;generalize W2.alloc oA=W3 at*;obtain⟨u0,u1,u2,u3,_⟩:=dP kA;have dL:decide ((L:Int) > 1)=true:=decide_eq_true (by omega);have hL1:(1:Int) < (L:Int):=by omega
     clear kA;go_wp2_with fail
     refine y0.mono ?_;rintro e W9 ⟨rfl,b9⟩;have g5:Hid (Below w.heap.size w W9):=k2.out.trans (b9.mono k2.out.size);clear b9 y0 u0 u1 u2 u3;go_wp2;go_ret;exact⟨rfl,g5.out⟩
end Go.Proofs.YtikffmloeifkpaaGreatDoor
