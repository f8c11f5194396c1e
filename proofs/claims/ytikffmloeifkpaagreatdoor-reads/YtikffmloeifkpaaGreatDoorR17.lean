/- Contracts. -/
import Derived.Test.YtikffmloeifkpaaGreatDoorR14
import Derived.Lib.ItoaNum
import Derived.Test.YtikffmloeifkpaaGreatDoorR15
import Derived.Deep.CutRange
set_option maxHeartbeats 8000000
set_option maxRecDepth 100000
namespace Go.Proofs.YtikffmloeifkpaaGreatDoor
section
open Go.RowKit Go.Lib
theorem jE{s:ByteArray}{i:Nat}(h:i < s.size):s.get! i=s[i]:=by
 show s.data[i]! =s.data[i];simp[*]
theorem aDV(s:ByteArray)(p:Nat)(h:p+2<=s.size)(h0:(s[p]'Oa).toNat / 32=6)(a:(s[p+1]'Oa).toNat / 64=2)(b:128<=((s[p]'Oa).toNat % 32)*64+(s[p+1]'Oa).toNat % 64):
 Utf8.decode s p=(((s[p]'Oa).toNat % 32)*64+(s[p+1]'Oa).toNat % 64,2):=by
 grind[Utf8.decode,jE]
theorem aH5{s:ByteArray}{p:Nat}(a:p < s.size)(h:(Utf8.decode s p).1<=591):((s[p]'a).toNat < 128/\Utf8.decode s p=((s[p]'a).toNat,1))\/(∃ e:p+2<=s.size,(s[p]'a).toNat / 32=6/\(s[p+1]'Oa).toNat / 64=2/\128<=((s[p]'a).toNat % 32)*64+(s[p+1]'Oa).toNat % 64/\Utf8.decode s p=(((s[p]'a).toNat % 32)*64+(s[p+1]'Oa).toNat % 64,2)):=by
 by_cases f:(s[p]'a).toNat < 128
 ·grind[decode_ascii]
 ·right;have e0:s.get! (p+0)=s[p]'a:=jE Oa;unfold Utf8.decode at h;dsimp only at h;simp only[e0]at h;rw[Oh]at h
  by_cases c1:((s[p]'a).toNat / 32==6&&(decide (p+1 < s.size)&&(s.get! (p+1)).toNat / 64==2))=true
  ·rw[if_pos c1]at h;simp only[Bool.and_eq_true,beq_iff_eq,decide_eq_true_eq]at c1;obtain⟨d1,d,c⟩:=c1;have e1:s.get! (p+1)=s[p+1]'Oa:=jE Oa;simp only[e1]at c h
   have b:128<=((s[p]'a).toNat % 32)*64+(s[p+1]'Oa).toNat % 64:=by
    by_cases b:128<=((s[p]'a).toNat % 32)*64+(s[p+1]'Oa).toNat % 64
    ·exact b
    ·rw[Oh]at h;trivial
   grind[aDV]
  ·exfalso;rw[if_neg c1]at h
   revert h
   repeat' split
   all_goals first|(intro h;exact absurd h Ob)|skip
   all_goals (rename_i b;intro h;simp only[Bool.and_eq_true,decide_eq_true_eq]at b;omega)
open Go.Deep
def uY(s:ByteArray):Int × Int:=if(Utf8.decode s 0).2=1/\128<=(Utf8.decode s 0).1 then(0,0)else((Utf8.decode s 0).1,(Utf8.decode s 0).2)
def vG(s:ByteArray)(k:Nat):Bool:=decide (k < s.size)&&decide (128<=(s.get! k).toNat)&&decide ((s.get! k).toNat<=191)
def yP(s:ByteArray)(l:Int):Nat->Int
 |0=>l
 |1=>l
 |k+2=>64*yP s l (k+1)+((s.get! (k+1)).toNat:Int) - 128
theorem bAG(s:ByteArray)(k:Nat):(decide (k < s.size)&&(s.get! k).toNat / 64==2)=vG s k:=by
 grind[vG]
theorem tJ{s:ByteArray}{k:Nat}(h:vG s k=true):128<=(s.get! k).toNat/\(s.get! k).toNat<=191:=by
 grind[vG]
theorem aB4(s:ByteArray):Utf8.decode s 0=if(s.get! 0).toNat < 128 then((s.get! 0).toNat,1)
 else if((s.get! 0).toNat / 32==6&&vG s 1)=true then(if(s.get! 0).toNat % 32*64+(s.get! 1).toNat % 64≥128 then((s.get! 0).toNat % 32*64+(s.get! 1).toNat % 64,2)else(65533,1))
 else if((s.get! 0).toNat / 16==14&&vG s 1&&vG s 2)=true then(if((s.get! 0).toNat % 16*4096+(s.get! 1).toNat % 64*64+(s.get! 2).toNat % 64≥2048/\Utf8.valid ((s.get! 0).toNat % 16*4096+(s.get! 1).toNat % 64*64+(s.get! 2).toNat % 64:Nat)=true)then((s.get! 0).toNat % 16*4096+(s.get! 1).toNat % 64*64+(s.get! 2).toNat % 64,3)else(65533,1))
 else if((s.get! 0).toNat / 8==30&&vG s 1&&vG s 2&&vG s 3)=true then(if((s.get! 0).toNat % 8*262144+(s.get! 1).toNat % 64*4096+(s.get! 2).toNat % 64*64+(s.get! 3).toNat % 64≥65536/\Utf8.valid ((s.get! 0).toNat % 8*262144+(s.get! 1).toNat % 64*4096+(s.get! 2).toNat % 64*64+(s.get! 3).toNat % 64:Nat)=true)then((s.get! 0).toNat % 8*262144+(s.get! 1).toNat % 64*4096+(s.get! 2).toNat % 64*64+(s.get! 3).toNat % 64,4)else(65533,1))
 else(65533,1):=by
 unfold Utf8.decode;simp only[Nat.zero_add,bAG,Bool.and_eq_true,decide_eq_true_eq];rfl
theorem bAL{s:ByteArray}(h:(s.get! 0).toNat < 128):uY s=(((s.get! 0).toNat:Int),1):=by
 grind[uY,aB4]
theorem aTR{s:ByteArray}{c n:Nat}(h:Utf8.decode s 0=(c,n))(a:2<=n):uY s=((c:Int),(n:Int)):=by
 grind[uY]
theorem aG1{s:ByteArray}(h:Utf8.decode s 0=(65533,1)):uY s=(0,0):=by
 grind[uY]
theorem xI(c:Nat):Utf8.valid (c:Int)=true↔(c < 55296\/(57344<=c/\c<=1114111)):=by
 grind[Utf8.valid]
theorem bAK{s:ByteArray}(h:194<=(s.get! 0).toNat/\(s.get! 0).toNat < 224):uY s=if vG s 1=true then(yP s ((s.get! 0).toNat - 192) 2,2)else(0,0):=by
 have a:=aB4 s;rw[Oh]at a
 by_cases c1:vG s 1=true
 ·have b:=tJ c1;rw[if_pos (by simp only[c1,Bool.and_true,beq_iff_eq];omega),if_pos Oa]at a;rw[if_pos c1,aTR a Oa];refine Prod.ext ?_ rfl;show(((s.get! 0).toNat % 32*64+(s.get! 1).toNat % 64:Nat):Int)=64*(((s.get! 0).toNat:Int) - 192)+((s.get! 1).toNat:Int) - 128;omega
 grind[aG1]
theorem bAJ{s:ByteArray}(h:224<=(s.get! 0).toNat/\(s.get! 0).toNat < 240):uY s=if vG s 1=true/\vG s 2=true/\2048<=yP s ((s.get! 0).toNat - 224) 3/\¬(55296<=yP s ((s.get! 0).toNat - 224) 3/\yP s ((s.get! 0).toNat - 224) 3 < 57344)then(yP s ((s.get! 0).toNat - 224) 3,3)else(0,0):=by
 have a:=aB4 s;rw[Oh,if_neg (by simp only[Bool.and_eq_true,beq_iff_eq];omega)]at a
 by_cases c1:vG s 1=true/\vG s 2=true
 ·have f:=tJ c1.1;have g:=tJ c1.2;rw[if_pos (by simp only[c1.1,c1.2,Bool.and_true,beq_iff_eq];omega)]at a
  have e:(((s.get! 0).toNat % 16*4096+(s.get! 1).toNat % 64*64+(s.get! 2).toNat % 64:Nat):Int)=yP s ((s.get! 0).toNat - 224) 3:=by
   show _=64*(64*(((s.get! 0).toNat:Int) - 224)+((s.get! 1).toNat:Int) - 128)+((s.get! 2).toNat:Int) - 128;omega
  have d:(s.get! 0).toNat % 16*4096+(s.get! 1).toNat % 64*64+(s.get! 2).toNat % 64 < 65536:=Oa
  generalize (s.get! 0).toNat % 16*4096+(s.get! 1).toNat % 64*64+(s.get! 2).toNat % 64=c at*;rw[<-e];simp only[xI]at a
  by_cases b:c≥2048/\(c < 55296\/(57344<=c/\c<=1114111))
  ·rw[if_pos b]at a;rw[aTR a Oa,if_pos ⟨c1.1,c1.2,Oa,Oa⟩];rfl
  grind[aG1]
 grind[aG1]
theorem bAI{s:ByteArray}(h:240<=(s.get! 0).toNat/\(s.get! 0).toNat < 245):uY s=if vG s 1=true/\vG s 2=true/\vG s 3=true/\65536<=yP s ((s.get! 0).toNat - 240) 4/\yP s ((s.get! 0).toNat - 240) 4<=1114111 then(yP s ((s.get! 0).toNat - 240) 4,4)else(0,0):=by
 have a:=aB4 s;rw[Oh,if_neg (by simp only[Bool.and_eq_true,beq_iff_eq];omega),if_neg (by simp only[Bool.and_eq_true,beq_iff_eq];omega)]at a
 by_cases c1:vG s 1=true/\vG s 2=true/\vG s 3=true
 ·have d:=tJ c1.1;have f:=tJ c1.2.1;have g:=tJ c1.2.2;rw[if_pos (by simp only[c1.1,c1.2.1,c1.2.2,Bool.and_true,beq_iff_eq];omega)]at a
  have e:(((s.get! 0).toNat % 8*262144+(s.get! 1).toNat % 64*4096+(s.get! 2).toNat % 64*64+(s.get! 3).toNat % 64:Nat):Int)=yP s ((s.get! 0).toNat - 240) 4:=by
   show _=64*(64*(64*(((s.get! 0).toNat:Int) - 240)+((s.get! 1).toNat:Int) - 128)+((s.get! 2).toNat:Int) - 128)+((s.get! 3).toNat:Int) - 128;omega
  generalize (s.get! 0).toNat % 8*262144+(s.get! 1).toNat % 64*4096+(s.get! 2).toNat % 64*64+(s.get! 3).toNat % 64=c at*;rw[<-e];simp only[xI]at a
  by_cases b:c≥65536/\(c < 55296\/(57344<=c/\c<=1114111))
  ·rw[if_pos b]at a;rw[aTR a Oa,if_pos ⟨c1.1,c1.2.1,c1.2.2,Oa,Oa⟩];rfl
  grind[aG1]
 grind[aG1]
theorem bAM{s:ByteArray}(h:128<=(s.get! 0).toNat)(a:(s.get! 0).toNat < 194\/245<=(s.get! 0).toNat):uY s=(0,0):=by
 grind[vG,aB4,tJ,aG1,xI]
theorem aTK{s:ByteArray}{k:Nat}(h:k < s.size):vG s k=true↔128<=(s[k].toNat:Int)/\(s[k].toNat:Int)<=191:=by
 grind[vG,jE]
theorem aV7{s:ByteArray}{l:Int}{i:Nat}(a:1<=i)(h:i < s.size):yP s l (i+1)=64*yP s l i+(s[i].toNat:Int) - 128:=by
 obtain⟨j,rfl⟩:∃ j,i=j+1:=⟨i - 1,Oa⟩
 grind[yP,jE]
theorem aS2{s:ByteArray}{l:Int}(b:0<=l/\l<=31):∀ i:Nat,i<=4->(∀ k,1<=k->k < i->vG s k=true)->0<=yP s l i/\yP s l i<=33554432:=by
 have b1:0<=yP s l 1/\yP s l 1<=31:=b;intro i hi a;have c:∀ j,yP s l (j+2)=64*yP s l (j+1)+((s.get! (j+1)).toNat:Int) - 128:=fun _=>rfl;have d:=c 0;have e:=c 1;have f:=c 2
 match i,hi,a with
 |0,_,_=>exact⟨b.1,by have:=b.2;show l<=_;omega⟩
 |1,_,_=>omega
 |2,_,a=>grind[tJ]
 |3,_,a=>grind[tJ]
 |4,_,a=>grind[tJ]
def aTA(n:Nat)(v:Int):Prop:=(n=3->¬(v < 2048\/(55296<=v/\v < 57344)))/\(n=4->¬(v < 65536\/v > 1114111))
theorem bAH{s:ByteArray}{n:Nat}{l:Int}(h:(n=2/\l=(s.get! 0).toNat - 192/\194<=(s.get! 0).toNat/\(s.get! 0).toNat < 224)\/(n=3/\l=(s.get! 0).toNat - 224/\224<=(s.get! 0).toNat/\(s.get! 0).toNat < 240)\/(n=4/\l=(s.get! 0).toNat - 240/\240<=(s.get! 0).toNat/\(s.get! 0).toNat < 245)):
 ((∀ k,1<=k->k < n->vG s k=true)->aTA n (yP s l n)->uY s=(yP s l n,(n:Int)))/\(∀ k,1<=k->k < n->vG s k=false->uY s=(0,0))/\(¬aTA n (yP s l n)->uY s=(0,0)):=by
 unfold aTA;rcases h with⟨rfl,rfl,h⟩|⟨rfl,rfl,h⟩|⟨rfl,rfl,h⟩
 ·grind[bAK]
 ·grind[bAJ]
 grind[bAI]
theorem aTQ(s:ByteArray)(w:World)(h0:0 < s.size)(hz:s.size<=4000):Calls Tryz.prog 100 #[.string s] w fun e w'=>e= .returned (.tuple #[Qc (uY s).1,Qc (uY s).2])/\w=w':=by
 have f:=jE h0;have hb:s[0].toNat < 256:=s[0].toNat_lt;obtain⟨R,d⟩:∃ R,R=uY s:=⟨_,rfl⟩;rw[<-d];have a5:(0:Int) < (s.size:Int):=Oa
 by_cases c1:s[0].toNat < 128
 ·have d1:decide ((s[0].toNat:Int) < 128)=true:=decide_eq_true Oa;have a:Hid (R=((s[0].toNat:Int),1)):=by rw[Hid,d,bAL (by rw[f];exact c1),f]
  clear d c1;go_enter Tryz.func100,Tryz.ntmps100
  go_wp2;go_ret2
  rw[a.o];exact⟨rfl,rfl⟩
 have d1:decide ((s[0].toNat:Int) < 128)=false:=decide_eq_false Oa
 by_cases c0:s[0].toNat < 194\/245<=s[0].toNat
 ·have a:Hid (R=(0,0)):=by rw[Hid,d,bAM (by rw[f];omega) (by rw[f];exact c0)]
  clear d c1;go_enter Tryz.func100,Tryz.ntmps100
  go_wp2
  all_goals
   go_ret2
   rw[a.o];exact⟨rfl,rfl⟩
 obtain⟨n,l,F⟩:∃ (n:Nat) (l:Int),(n=2/\l=(s.get! 0).toNat - 192/\194<=(s.get! 0).toNat/\(s.get! 0).toNat < 224)\/(n=3/\l=(s.get! 0).toNat - 224/\224<=(s.get! 0).toNat/\(s.get! 0).toNat < 240)\/(n=4/\l=(s.get! 0).toNat - 240/\240<=(s.get! 0).toNat/\(s.get! 0).toNat < 245):=by
  rw[f];rcases(show s[0].toNat < 224\/(224<=s[0].toNat/\s[0].toNat < 240)\/240<=s[0].toNat by omega)with h|h|h
  ·exact⟨2,_,.l ⟨rfl,rfl,Oa,h⟩⟩
  ·exact⟨3,_,.r (.l ⟨rfl,rfl,h.1,h.2⟩)⟩
  ·exact⟨4,_,.r (.r ⟨rfl,rfl,h,Oa⟩)⟩
 obtain⟨a1,r,A⟩:=bAH F;rw[<-d]at a1 r A;have hl:0<=l/\l<=31:=Oa
 have a8:2<=n/\n<=4:=Oa
 have L:s.size < n->R=(0,0):=fun h=>r s.size h0 h (by unfold vG;rw[decide_eq_false Oa];rfl);have P:Hid _:=a1;have Q:Hid _:=r;have S:Hid _:=A;have T:Hid _:=L;rw[f]at F;obtain⟨N,c⟩:∃ N:Nat,N=n:=⟨_,rfl⟩;clear a1 r A L d c1 f;rcases F with⟨rfl,v,B,C⟩|⟨rfl,v,B,C⟩|⟨rfl,v,B,C⟩
 all_goals
  first
   |(have e1:decide ((s[0].toNat:Int)≥194)=true:=decide_eq_true Oa
     have M:decide ((s[0].toNat:Int) < 224)=true:=decide_eq_true Oa)
   |(have e1:decide ((s[0].toNat:Int)≥194)=true:=decide_eq_true Oa
     have M:decide ((s[0].toNat:Int) < 224)=false:=decide_eq_false Oa;have X:decide ((s[0].toNat:Int)≥224)=true:=decide_eq_true Oa;have Y:decide ((s[0].toNat:Int) < 240)=true:=decide_eq_true Oa)
   |(have e1:decide ((s[0].toNat:Int)≥194)=true:=decide_eq_true Oa
     have M:decide ((s[0].toNat:Int) < 224)=false:=decide_eq_false Oa;have X:decide ((s[0].toNat:Int)≥224)=true:=decide_eq_true Oa;have Y:decide ((s[0].toNat:Int) < 240)=false:=decide_eq_false Oa;have e5:decide ((s[0].toNat:Int)≥240)=true:=decide_eq_true Oa;have e6:decide ((s[0].toNat:Int) < 245)=true:=decide_eq_true Oa)
  have Z:=v.symm;clear v B C c0;go_enter Tryz.func100,Tryz.ntmps100
  go_upto_region 15 with fail
  by_cases h8:s.size < N
  ·have a:Hid (R=(0,0)):=T.o Oa
   first
    |(have e:decide ((s.size:Int) < 2)=true:=decide_eq_true Oa)
    |(have e:decide ((s.size:Int) < 3)=true:=decide_eq_true Oa)
    |(have e:decide ((s.size:Int) < 4)=true:=decide_eq_true Oa)
   clear h8;go_wp2;go_ret2
   rw[a.o];exact⟨rfl,rfl⟩
  ·first
    |(have m:N=2:=c
      have e:decide ((s.size:Int) < 2)=false:=decide_eq_false Oa)
    |(have m:N=3:=c
      have e:decide ((s.size:Int) < 3)=false:=decide_eq_false Oa)
    |(have m:N=4:=c
      have e:decide ((s.size:Int) < 4)=false:=decide_eq_false Oa)
   clear m;go_wp2_with fail
   clear e;go_loopg [6,7,8] 4 (fun H a3 a2 b wr=>∃ k:Nat,a2= Qc k/\1<=k/\k<=N/\N<=k+H/\a3= Qc (yP s l k)/\(∀ j,1<=j->j < k->vG s j=true)/\w=wr)
   case atStart=>exact⟨1,rfl,Ql _,Oa,Oa,rfl,fun j u O=>Oa,rfl⟩
   case round=>
    obtain⟨k,rfl,o,G,z,rfl,p,rfl⟩:=hrel;have a9:=aS2 hl k Oa p
    by_cases y:k < N
    ·have E:k < s.size:=Oa
     have a7:0<=(k:Int)/\(k:Int) < (s.size:Int):=Oa
     have a6:s[k].toNat < 256:=s[k].toNat_lt;have D:=aV7 (l:=l) o E;obtain⟨g,rfl⟩:∃ H,gk=H+1:=⟨gk - 1,Oa⟩;have K:Hid (k < N/\1<=k/\N<=k+(g+1)):=⟨y,o,z⟩
     first
      |(have q:(k:Int) < 2:=by omega)
      |(have q:(k:Int) < 3:=by omega)
      |(have q:(k:Int) < 4:=by omega)
     have w1:IntKind.i64.wrap (64*yP s l k)=64*yP s l k:=IntWalk.i64_in _ Oa;have w2:IntKind.i64.wrap (64*yP s l k+(s[k].toNat:Int))=64*yP s l k+(s[k].toNat:Int):=IntWalk.i64_in _ Oa;have w3:IntKind.i64.wrap (64*yP s l k+(s[k].toNat:Int) - 128)=64*yP s l k+(s[k].toNat:Int) - 128:=IntWalk.i64_in _ Oa;have U:Hid (∀ j,1<=j->j < k->vG s j=true):=p;have V:Hid _:=D
     by_cases i:vG s k=true
     ·have x:=(aTK E).1 i;have b1:decide ((s[k].toNat:Int) < 128)=false:=decide_eq_false Oa;have W:decide ((s[k].toNat:Int) > 191)=false:=decide_eq_false Oa;have k0:Hid (vG s k=true):=i;clear i x p D o G z y;go_wp2;go_roundg g
      case rel=>exact⟨k+1,Od,Oa,Oi K.o,Oi K.o,by rw[V.o],fun j u O=>by
       rcases(show j < k\/j=k by omega)with h|rfl
       ·exact U.o j u h
       ·exact k0.o,rfl⟩
      case measure=>omega
     ·have a:Hid (R=(0,0)):=Q.o k o Oa (by simpa using i);have x: ¬(128<=(s[k].toNat:Int)/\(s[k].toNat:Int)<=191):=fun h=>i ((aTK E).2 h);clear i p D o G z y
      by_cases t:(s[k].toNat:Int) < 128
      ·have b1:decide ((s[k].toNat:Int) < 128)=true:=decide_eq_true t;clear x t;go_wp2;go_ret2
       rw[a.o];exact⟨rfl,rfl⟩
      ·have b1:decide ((s[k].toNat:Int) < 128)=false:=decide_eq_false t;have W:decide ((s[k].toNat:Int) > 191)=true:=decide_eq_true Oa;clear x t;go_wp2;go_ret2
       rw[a.o];exact⟨rfl,rfl⟩
    ·obtain rfl:k=N:=Oa
     have I:Hid _:=P.o (fun j u O=>p j u Oa);have J:Hid _:=S.o;rw[<-c]at I J;generalize yP s l k=a4 at*
     first
      |(have m:k=2:=c
        have q: ¬(k:Int) < 2:=by omega)
      |(have m:k=3:=c
        have q: ¬(k:Int) < 3:=by omega)
      |(have m:k=4:=c
        have q: ¬(k:Int) < 4:=by omega)
     clear p o G z y Z;go_wp2
     all_goals
      go_ret2
      first
       |(rw[I.o (by unfold aTA;omega),c];exact⟨rfl,rfl⟩)
       |(rw[J.o (by unfold aTA;omega)];exact⟨rfl,rfl⟩)
theorem aDX(s:ByteArray)(h:0 < s.size):(uY s).2=0/\(uY s).1=0\/(1<=(uY s).2/\(uY s).2<=s.size/\0<=(uY s).1/\∃ n:Nat,(uY s).2=n):=by
 grind[uY,Utf8.decode]
def nmL(u:ByteArray):Nat->Nat->Nat->Nat × Nat
 |0,a,n=>(a,n)
 |k+1,a,n=>if a < u.size then(if(uY (u.extract a u.size)).2=0\/(eQ (uY (u.extract a u.size)).1=false/\(eN (uY (u.extract a u.size)).1=false\/n=0))then(a,n)else nmL u k (a+(uY (u.extract a u.size)).2.toNat) (n+1))else(a,n)
def nmQ(u:ByteArray):Nat × Nat:=nmL u (u.size+1) 0 0
theorem aVL(u:ByteArray)(w:World)(hz:u.size<=4000):Calls Tryz.prog 164 #[.string u] w fun e i=>e= .returned (.tuple #[Qc (nmQ u).1,Qc (nmQ u).2])/\w=i:=by
 have a5:(u.size:Int)<=4000:=Oa
 obtain⟨R,d⟩:∃ R,R=nmQ u:=⟨_,rfl⟩;rw[<-d];have t:Hid (R=nmL u (u.size+1) 0 0):=d;clear d;go_enter Tryz.func164,Tryz.ntmps164
 go_wp2_with fail
 go_loopg [4,5,6,7,8,9] (u.size+1) (fun p S T x6 x7 x8 x9 wr=>∃ a n:Nat,S= Qc a/\T= Qc n/\a<=u.size/\n<=a/\u.size+1<=a+p/\R=nmL u p a n/\w=wr)
 case atStart=>exact⟨0,0,rfl,rfl,Qn _,Ql _,Oa,t.o,rfl⟩
 case round=>
  clear t;obtain⟨a,n,rfl,rfl,L,k0,B,d,rfl⟩:=hrel;obtain⟨g,rfl⟩:∃ p,gk=p+1:=⟨gk - 1,Oa⟩
  by_cases m:a < u.size
  ·have K:(a:Int) < (u.size:Int):=Oa
   have a2:0<=(a:Int)/\(a:Int)<=(u.size:Int):=Oa
   have cP:(u.extract a u.size).size=u.size - a:=by rw[ByteArray.size_extract];omega
   have F:=aTQ (u.extract a u.size) w Oa Oa;have z:=aDX (u.extract a u.size) Oa;unfold nmL at d;rw[if_pos m]at d;generalize uY (u.extract a u.size)=c at*;obtain⟨v,f⟩:=c;have D:=aSS v w;have E:=aW4 v w;have s:Hid _:=d;have J:Hid _:=z;have I:Hid (a < u.size/\n<=a/\u.size+1<=a+(g+1)/\(u.extract a u.size).size=u.size - a):=⟨m,k0,B,cP⟩;clear d z L k0 B cP;go_wp2_with fail
   refine F.mono ?_;rintro e i ⟨rfl,rfl⟩;clear F;go_wp2_with fail
   refine D.mono ?_;rintro e i ⟨rfl,rfl⟩;clear D;go_wp2_with fail
   refine E.mono ?_;rintro e i ⟨rfl,rfl⟩;clear E;have G:=J.o
   by_cases b:f=0\/(eQ v=false/\(eN v=false\/n=0))
   ·have k:Hid (R=(a,n)):=s.o.t (if_pos b);go_upto_region 7 with fail
    go_cut [8,9,38]from 10 to 45 (fun _ _ x i=>x= .bool true/\w=i)
    case first=>
     by_cases h0:f=0
     ·have t0:(f==0)=true:=by simp[h0]
      clear b h0;go_wp2;go_meet
      case rel=>exact⟨rfl,rfl⟩
     ·have t0:(f==0)=false:=by simp[h0]
      obtain⟨h1,q⟩:=b.resolve_left h0;cases o:eN v
      ·clear b h0 q;go_wp2;go_meet
       case rel=>exact⟨rfl,rfl⟩
      ·have C:n=0:=q.resolve_left (by simp[o]);have Q:((n:Int)==0)=true:=by simp[C]
       clear b h0 q C;go_wp2;go_meet
       case rel=>exact⟨rfl,rfl⟩
    case rest=>
     obtain⟨rfl,rfl⟩:=hcut;clear b;go_wp2;go_ret2
     rw[k.o];exact⟨rfl,rfl⟩
   ·have k:Hid (R=nmL u g (a+f.toNat) (n+1)):=s.o.t (if_neg b);go_upto_region 7 with fail
    go_cut [8,9,38]from 10 to 45 (fun _ _ x i=>x= .bool false/\w=i)
    case first=>
     have t0:(f==0)=false:=by simp;exact fun h=>b (.l h)
     cases hl:eQ v
     ·have o:eN v=true:=by
       cases o:eN v
       ·exact absurd (.r ⟨hl,.l o⟩) b
       ·rfl
      have Q:((n:Int)==0)=false:=by simp;exact fun h=>b (.r ⟨hl,.r h⟩)
      clear b;go_wp2;go_meet
      case rel=>exact⟨rfl,rfl⟩
     ·clear b;go_wp2;go_meet
      case rel=>exact⟨rfl,rfl⟩
    case rest=>
     obtain⟨rfl,rfl⟩:=hcut;have A: ¬f=0:=fun h=>b (.l h);obtain⟨N,O,P,M,r⟩:=G.resolve_left (fun h=>A h.1);have hI:=I.o
     have y:∃ j l:Nat,Qc ((a:Int)+f)= Qc j/\Qc ((n:Int)+1)= Qc l/\j<=u.size/\l<=j/\u.size+1<=j+g/\R=nmL u g j l:=
      ⟨a+M,n+1,by rw[r];simp,Od,Oa,Oa,Oa,by rw[k.o,r];rfl⟩
     have H:Hid _:=y;have a4:IntKind.i64.wrap ((a:Int)+f)=(a:Int)+f:=IntWalk.i64_in _ Oa;have a3:IntKind.i64.wrap ((n:Int)+1)=(n:Int)+1:=IntWalk.i64_in _ Oa;clear b A N O P r y G;go_wp2;go_roundg g
     case rel=>
      obtain⟨j,l,U,V,W,X,Y,Z⟩:=H.o;exact⟨j,l,U,V,W,X,Y,Z,rfl⟩
     case measure=>omega
  ·have K: ¬(a:Int) < (u.size:Int):=Oa
   unfold nmL at d;rw[if_neg m]at d;have k:Hid (R=(a,n)):=d;clear d m;go_wp2;go_ret2
   rw[k.o];exact⟨rfl,rfl⟩
def aBE:ByteArray:=⟨#[61,61,32,33,61,32,60,61,32,62,61,32,38,38,32,124,124]⟩
def aAX:ByteArray:=⟨#[40,32,41,32,123,32,125,32,91,32,93,32,44,32,59,32,61,32,60,32,62,32,43,32,45,32,42,32,47,32,37]⟩
def lgB(u:ByteArray):Bool:=decide (1 < u.size)&&(decide ((u.get! 0).toNat≠32)&&(decide ((u.get! 1).toNat≠32)&&inQ (u.extract 0 2) aBE))
def shB(u:ByteArray):Bool:=decide ((u.get! 0).toNat≠32)&&inQ (u.extract 0 1) aAX
def vY(u:ByteArray):ByteArray:=if lgB u=true then u.extract 0 2 else if shB u=true then u.extract 0 1 else⟨#[]⟩
theorem aXU(u:ByteArray)(w:World)(h0:0 < u.size)(q:u.size<=4000):Calls Tryz.prog 166 #[.string u] w fun e b=>e= .returned (.string (vY u))/\w=b:=by
 have d:=jE h0;have n:(0:Int) < (u.size:Int):=Oa
 have o:(1:Int)<=(u.size:Int):=Oa
 have i:=aVY (u.extract 0 2) aBE w Ob;have j:=aVY (u.extract 0 1) aAX w Ob;obtain⟨R,h⟩:∃ R,R=vY u:=⟨_,rfl⟩;rw[<-h];have f:Hid _:=h;unfold aBE at i;unfold aAX at j;clear h;go_enter Tryz.func166,Tryz.ntmps166
 go_upto_region 1 with fail
 go_cut [20]from 3 (fun x b=>x= .bool (lgB u)/\w=b)
 case first=>
  by_cases c1:1 < u.size
  ·have d1:decide ((u.size:Int) > 1)=true:=decide_eq_true Oa;have p:(1:Int) < (u.size:Int):=Oa
   have m:(2:Int)<=(u.size:Int):=Oa
   have k:=jE c1
   by_cases c2:u[0].toNat=32
   ·have g:((u[0].toNat:Int)!=32)=false:=by simp[c2]
    have a:Hid (lgB u=false):=by rw[Hid];unfold lgB;rw[d];simp[c2]
    clear c2;go_wp2;go_meet
    case rel=>exact⟨by rw[a.o]<;>rfl,rfl⟩
   ·have g:((u[0].toNat:Int)!=32)=true:=by simp;omega
    by_cases c3:u[1].toNat=32
    ·have l:((u[1].toNat:Int)!=32)=false:=by simp[c3]
     have a:Hid (lgB u=false):=by rw[Hid];unfold lgB;rw[k];simp[c3]
     clear c2 c3;go_wp2;go_meet
     case rel=>exact⟨by rw[a.o]<;>rfl,rfl⟩
    ·have l:((u[1].toNat:Int)!=32)=true:=by simp;omega
     have a:Hid (lgB u=inQ (u.extract 0 2) aBE):=by rw[Hid];unfold lgB;rw[d,k];simp[c1,c2,c3]
     clear c2 c3;go_wp2_with fail
     refine i.mono ?_;rintro e b ⟨rfl,rfl⟩;go_wp2;go_meet
     case rel=>exact⟨by rw[a.o]<;>rfl,rfl⟩
  ·have d1:decide ((u.size:Int) > 1)=false:=decide_eq_false Oa;have a:Hid (lgB u=false):=by rw[Hid];unfold lgB;simp[c1]
   clear c1;go_wp2;go_meet
   case rel=>exact⟨by rw[a.o]<;>rfl,rfl⟩
 case rest=>
  obtain⟨rfl,rfl⟩:=hcut;clear i;cases hl:lgB u
  ·go_upto_region 3 with fail
   go_cut [30]from 3 (fun x b=>x= .bool (shB u)/\w=b)
   case first=>
    by_cases c2:u[0].toNat=32
    ·have g:((u[0].toNat:Int)!=32)=false:=by simp[c2]
     have a:Hid (shB u=false):=by rw[Hid];unfold shB;rw[d];simp[c2]
     clear c2;go_wp2;go_meet
     case rel=>exact⟨by rw[a.o]<;>rfl,rfl⟩
    ·have g:((u[0].toNat:Int)!=32)=true:=by simp;omega
     have a:Hid (shB u=inQ (u.extract 0 1) aAX):=by rw[Hid];unfold shB;rw[d];simp[c2]
     clear c2;go_wp2_with fail
     refine j.mono ?_;rintro e b ⟨rfl,rfl⟩;go_wp2;go_meet
     case rel=>exact⟨by rw[a.o]<;>rfl,rfl⟩
   case rest=>
    obtain⟨rfl,rfl⟩:=hcut;clear j;cases hs:shB u
    ·have c:Hid (R=⟨#[]⟩):=f.o.t (by unfold vY;rw[hl,hs];rfl);clear hl hs;go_wp2;go_ret;rw[c.o];exact⟨rfl,rfl⟩
    ·have c:Hid (R=u.extract 0 1):=f.o.t (by unfold vY;rw[hl,hs];rfl);clear hl hs;go_wp2;go_ret;rw[c.o];exact⟨rfl,rfl⟩
  ·have c:Hid (R=u.extract 0 2):=f.o.t (by unfold vY;rw[hl];rfl)
   have m:(2:Int)<=(u.size:Int):=by
    unfold lgB at hl;simp only[Bool.and_eq_true,decide_eq_true_eq]at hl;omega
   clear hl;go_wp2;go_ret;rw[c.o];exact⟨rfl,rfl⟩
def aEF:ByteArray:=⟨#[97,114,114,32,102,110,32,119,104,101,114,101,32,108,101,116,32,105,102,32,101,108,115,101,32,119,104,105,108,101,32,114,101,116,117,114,110,32,111,117,116]⟩
def dgL(u:ByteArray):Nat->Nat->Int->Nat × Int × Bool
 |0,k,v=>(k,v,false)
 |f+1,k,v=>if k < u.size/\48<=(u.get! k).toNat/\(u.get! k).toNat<=57 then(if 999999999 < 10*v+((u.get! k).toNat - 48)then(k,v,true)else dgL u f (k+1) (10*v+((u.get! k).toNat - 48)))else(k,v,false)
def dgQ(u:ByteArray):Nat × Int × Bool:=dgL u (u.size+1) 0 0
def jV(s:ByteArray)(p:Nat):aU × Nat × Int:=
 let u:=s.extract p s.size
 if 0 < (nmQ u).1 then(⟨if inQ (u.extract 0 (nmQ u).1) aEF then 3 else 1,p,u.extract 0 (nmQ u).1,0⟩,(nmQ u).1,if 12 < (nmQ u).2 then 1 else 0)
 else if(dgQ u).2.2 then(⟨0,0,⟨#[]⟩,0⟩,0,3)
 else if 0 < (dgQ u).1 then(⟨2,p,u.extract 0 (dgQ u).1,(dgQ u).2.1⟩,(dgQ u).1,0)
 else if vY u=⟨#[]⟩then(⟨0,0,⟨#[]⟩,0⟩,0,1)
 else(⟨3,p,vY u,0⟩,(vY u).size,0)
def aZK(t:aU):Value:= .agg #[Qc t.d,Qc t.e,.string t.f,Qc t.a]
theorem aWW(u:ByteArray):∀ (k a n:Nat),a<=u.size->(nmL u k a n).1<=u.size:=by
 intro k
 induction k with
 |zero=>intro a n h;exact h
 |succ k ih=>
  grind[nmL,ByteArray.size_extract,aDX]
theorem vZ{w W:World}{a b c d a' b' c' d':Value}{Z:TypeId}(e:W.1[w.1.size]?=some (Qf #[a,b,c,d] Z))(f:Below w.1.size w W):
 (((((W.setCell ⟨w.1.size,0,none⟩ a').setCell ⟨w.1.size,1,none⟩ b').setCell ⟨w.1.size,2,none⟩ c').setCell ⟨w.1.size,3,none⟩ d').cell? ⟨w.1.size,0,none⟩=some a'/\((((W.setCell ⟨w.1.size,0,none⟩ a').setCell ⟨w.1.size,1,none⟩ b').setCell ⟨w.1.size,2,none⟩ c').setCell ⟨w.1.size,3,none⟩ d').cell? ⟨w.1.size,1,none⟩=some b'/\((((W.setCell ⟨w.1.size,0,none⟩ a').setCell ⟨w.1.size,1,none⟩ b').setCell ⟨w.1.size,2,none⟩ c').setCell ⟨w.1.size,3,none⟩ d').cell? ⟨w.1.size,2,none⟩=some c'/\((((W.setCell ⟨w.1.size,0,none⟩ a').setCell ⟨w.1.size,1,none⟩ b').setCell ⟨w.1.size,2,none⟩ c').setCell ⟨w.1.size,3,none⟩ d').cell? ⟨w.1.size,3,none⟩=some d')/\
 Below w.1.size w ((((W.setCell ⟨w.1.size,0,none⟩ a').setCell ⟨w.1.size,1,none⟩ b').setCell ⟨w.1.size,2,none⟩ c').setCell ⟨w.1.size,3,none⟩ d'):=by
 obtain⟨y0,g,h,i,_⟩:=pE (aI (o:=3) d' (aI (o:=2) c' (aI (o:=1) b' (aI (o:=0) a' e))));exact⟨Qh,(((f.setCell (p:=⟨w.1.size,0,none⟩) Ol _).setCell (p:=⟨w.1.size,1,none⟩) Ol _).setCell (p:=⟨w.1.size,2,none⟩) Ol _).setCell (p:=⟨w.1.size,3,none⟩) Ol _⟩
def WdC(w:World)(X:ByteArray)(p:Nat)(w':World):Prop:=∃ kd:Int,kd=(if inQ X aEF then 3 else 1)/\w'.1[w.1.size]?=some (Qf #[Qc 0,Qc 0,.string ⟨#[]⟩,Qc 0] 220)/\w'.1[w.1.size+1]?=some (Qf #[Qc kd,Qc p,.string X,Qc 0] 220)/\Below w.1.size w w'
theorem aXF(s:ByteArray)(p:Nat)(w:World)(hp:p < s.size)(hz:s.size<=4000):Calls Tryz.prog 101 #[.string s,Qc p] w fun e m=>e= .returned (.tuple #[aZK (jV s p).1,Qc (jV s p).2.1,Qc (jV s p).2.2])/\Below w.1.size w m:=by
 have a8:0<=(p:Int)/\(p:Int)<=(s.size:Int):=Oa
 have cP:(s.extract p s.size).size=s.size - p:=by rw[ByteArray.size_extract];omega
 obtain⟨u,P⟩:∃ u,u=s.extract p s.size:=⟨_,rfl⟩;obtain⟨R,t⟩:∃ R,R=jV s p:=⟨_,rfl⟩;rw[<-t];unfold jV at t;dsimp only at t;rw[<-P]at t cP;have C:=aWW u (u.size+1) 0 0 (Qn _);have C:(nmQ u).1<=u.size:=C;have hN:=fun W=>aVL u W Oa;have hS:=fun W=>aXU u W Oa Oa;obtain⟨o0,U⟩:∃ o:Obj,o= .cells #[Qc 0,Qc 0,.string ⟨#[]⟩,Qc 0] 220:=⟨_,rfl⟩;have k0:(w.alloc o0).1[w.1.size]?=some (Qf #[Qc 0,Qc 0,.string ⟨#[]⟩,Qc 0] 220):=by rw[U];exact Qk w _
 have b0:Below w.1.size w (w.alloc o0):=(Below.refl _ _).alloc Ol _;have s0:(w.alloc o0).1.size=w.1.size+1:=Od
 generalize y6:nmQ u=nq at*;obtain⟨n,cnt⟩:=nq;have L:Hid _:=t;have HS:Hid _:=hS;clear t y6 hS;go_enter Tryz.func101,Tryz.ntmps101
 go_upto_region 1 with fail
 rw[<-U];clear U;generalize w.alloc o0=f at*;go_upto_region 2 with fail
 rw[<-P];clear P;go_wp2_with fail
 refine(hN f).mono ?_;rintro e m ⟨rfl,rfl⟩;clear hN
 by_cases N:0 < n
 ·have a6:decide ((n:Int) > 0)=true:=decide_eq_true Oa;have a7:(n:Int)<=(u.size:Int):=Oa
  obtain⟨X,M⟩:∃ X,X=u.extract 0 n:=⟨_,rfl⟩
  have q:Hid (R=(⟨if inQ X aEF then 3 else 1,p,X,0⟩,n,if 12 < cnt then 1 else 0)):=by
   have:=L.o;rw[if_pos N,<-M]at this;exact this
  obtain⟨A,T⟩:∃ o:Obj,o= .cells #[Qc 1,Qc p,.string X,Qc 0] 220:=⟨_,rfl⟩;have J:(f.alloc A).1[w.1.size+1]?=some (Qf #[Qc 1,Qc p,.string X,Qc 0] 220):=by rw[<-s0,T];exact Qk f _
  have Q:=(Below.heap_alloc f A w.1.size Oa).t k0;have b1:Below w.1.size w (f.alloc A):=b0.alloc Oa _;have Y:=aVY X aEF (f.alloc A) Ob;unfold aEF at Y;clear k0 b0 C;go_upto_region 5 with fail
  rw[<-M,<-T];clear M T;obtain⟨x0,x1,x2,x3,_⟩:=pE J;have y7:w.1.size≠w.1.size+1:=Oa
  generalize f.alloc A=W1 at*;go_wp2_with fail
  refine Y.mono ?_;rintro e m ⟨rfl,rfl⟩;clear Y;go_upto_if 33 with fail
  go_cut [11]from 15 (fun _ m=>WdC w X p m)
  case first=>
   have HK:Hid _:=Q;have y5:Hid _:=J;have HB:Hid (Below w.1.size w W1):=b1;obtain⟨O,G⟩:∃ O,O=inQ X aEF:=⟨_,rfl⟩;have HO:Hid (O=inQ X aEF):=G;unfold aEF at G;rw[<-G];clear G Q J b1;cases O
   ·go_wp2;go_meet
    case rel=>exact⟨1,by rw[<-HO.o];rfl,HK.o,y5.o,HB.o⟩
   ·go_wp2;go_meet
    case rel=>exact⟨3,by rw[<-HO.o];rfl,(Om y7).t HK.o,aI (o:=0) (Qc 3) y5.o,HB.o.setCell (p:=⟨w.1.size+1,0,none⟩) (by show _<=w.1.size+1;omega) _⟩
  case rest=>
   rename World=>WC
   obtain⟨kd,V,q0,q1,qb⟩:=hcut;clear x0 x1 x2 x3 Q J b1;obtain⟨x0,x1,x2,x3,_⟩:=pE q1;obtain⟨z0,z1,z2,z3,zf⟩:=pE q0;obtain⟨⟨y0,i,j,l⟩,b⟩:=vZ (a':= Qc kd) (b':= Qc p) (c':= .string X) (d':= Qc 0) q0 qb;have h:Hid _:=b;have a4:Hid _:=V;have h0:=q.o;rw[<-V]at h0;clear q0 q1 qb b V
   by_cases H:12 < cnt
   ·have d1:decide ((cnt:Int) > 12)=true:=decide_eq_true Oa;rw[if_pos H]at h0;have Z:Hid _:=h0;clear H h0;go_wp2;refine bodyPost_ret (v:= .tuple #[.agg #[Qc kd,Qc p,.string X,Qc 0],Qc n,Qc 1]) (by simp[results,Tryz.results101,go_sem,y0,i,j,l]) rfl ⟨by rw[Z.o];rfl,h.o⟩
   ·have d1:decide ((cnt:Int) > 12)=false:=decide_eq_false Oa;rw[if_neg H]at h0;have Z:Hid _:=h0;clear H h0;go_wp2;refine bodyPost_ret (v:= .tuple #[.agg #[Qc kd,Qc p,.string X,Qc 0],Qc n,Qc 0]) (by simp[results,Tryz.results101,go_sem,y0,i,j,l]) rfl ⟨by rw[Z.o];rfl,h.o⟩
 ·have y8:n=0:=Oa
  subst y8;have y4:Hid _:=L.o.t (if_neg N);have D0:Hid (dgQ u=dgL u (u.size+1) 0 0):=rfl;obtain⟨z0,z1,z2,z3,zf⟩:=pE k0;have E:Hid _:=k0;have F:Hid _:=b0;clear N k0 b0 C L;go_wp2_with fail
  go_loopg [12,13] (u.size+1) (fun K a2 a3 wr=>∃ (k:Nat) (v:Int),a2= Qc k/\a3= Qc v/\k<=u.size/\u.size+1<=k+K/\0<=v/\v<=999999999/\dgQ u=dgL u K k v/\f=wr)
  case atStart=>exact⟨0,0,rfl,rfl,Qn _,Oa,Oa,Oa,D0.o,rfl⟩
  case round=>
   clear D0;obtain⟨k,v,rfl,rfl,I,z,v0,v9,a,rfl⟩:=hrel;obtain⟨g,rfl⟩:∃ K,gk=K+1:=⟨gk - 1,Oa⟩;unfold dgL at a
   by_cases c:k < u.size/\48<=(u.get! k).toNat/\(u.get! k).toNat<=57
   ·rw[if_pos c]at a;have D:=c.1;rw[jE D]at a c;have h5:(k:Int) < (u.size:Int):=Oa
    have y9:0<=(k:Int)/\(k:Int) < (u.size:Int):=Oa
    have b1:decide ((u[k].toNat:Int)≥48)=true:=decide_eq_true Oa;have b2:decide ((u[k].toNat:Int)<=57)=true:=decide_eq_true Oa;have w1:IntKind.u8.wrap ((u[k].toNat:Int) - 48)=(u[k].toNat:Int) - 48:=by rw[IntKind.wrap_u8];omega
    have w2:IntKind.i64.wrap (10*v)=10*v:=IntWalk.i64_in _ Oa;have w3:IntKind.i64.wrap (10*v+((u[k].toNat:Int) - 48))=10*v+((u[k].toNat:Int) - 48):=IntWalk.i64_in _ Oa;have w4:IntKind.i64.wrap ((u[k].toNat:Int) - 48)=(u[k].toNat:Int) - 48:=IntWalk.i64_in _ Oa;have k9:=c.2;have S:0<=10*v+((u[k].toNat:Int) - 48):=Oa
    by_cases d:999999999 < 10*v+((u[k].toNat:Int) - 48)
    ·have d1:decide (10*v+((u[k].toNat:Int) - 48) > 999999999)=true:=decide_eq_true Oa;rw[if_pos d]at a;have r:Hid (R=(⟨0,0,⟨#[]⟩,0⟩,0,3)):=y4.o.t (by rw[a];rfl);obtain⟨⟨y0,i,j,l⟩,b⟩:=vZ (a':= Qc 0) (b':= Qc 0) (c':= .string ⟨#[]⟩) (d':= Qc 0) E.o F.o;have h:Hid _:=b;clear d a c k9 S b I z;go_wp2;refine bodyPost_ret (v:= .tuple #[.agg #[Qc 0,Qc 0,.string ⟨#[]⟩,Qc 0],Qc 0,Qc 3]) (by simp[results,Tryz.results101,go_sem,y0,i,j,l]) rfl ⟨by rw[r.o];rfl,h.o⟩
    ·have d1:decide (10*v+((u[k].toNat:Int) - 48) > 999999999)=false:=decide_eq_false Oa;rw[if_neg d]at a;have HD:Hid _:=a;have B:Hid (k < u.size/\u.size+1<=k+(g+1)/\0<=10*v+((u[k].toNat:Int) - 48)/\10*v+((u[k].toNat:Int) - 48)<=999999999):=⟨D,z,S,Oa⟩;clear d a c k9 S I z;go_wp2;go_roundg g
     case rel=>exact⟨k+1,_,Od,rfl,Oi B.o,Oi B.o,B.o.2.2.1,B.o.2.2.2,HD.o,rfl⟩
     case measure=>omega
   ·rw[if_neg c]at a;go_upto_region 13 with fail
    go_cut [56]from 41 to 69 (fun x m=>x= .bool false/\f=m)
    case first=>
     by_cases D:k < u.size
     ·have h5:(k:Int) < (u.size:Int):=Oa
      have y9:0<=(k:Int)/\(k:Int) < (u.size:Int):=Oa
      rw[jE D]at c
      by_cases c1:48<=u[k].toNat
      ·have b1:decide ((u[k].toNat:Int)≥48)=true:=decide_eq_true Oa;have b2:decide ((u[k].toNat:Int)<=57)=false:=decide_eq_false Oa;clear c c1 a;go_wp2;go_meet
       case rel=>exact⟨rfl,rfl⟩
      ·have b1:decide ((u[k].toNat:Int)≥48)=false:=decide_eq_false Oa;clear c c1 a;go_wp2;go_meet
       case rel=>exact⟨rfl,rfl⟩
     ·have h5: ¬(k:Int) < (u.size:Int):=Oa
      clear c a;go_wp2;go_meet
      case rel=>exact⟨rfl,rfl⟩
    case rest=>
     obtain⟨rfl,rfl⟩:=hcut;clear c;have q:=y4.o;rw[a]at q
     by_cases k8:0 < k
     ·have a5:(k:Int)<=(u.size:Int):=Oa
      have y:R=(⟨2,p,u.extract 0 k,v⟩,k,0):=q.t (by simp[k8]);have r:Hid (R=(⟨2,p,u.extract 0 k,v⟩,k,0)):=y;obtain⟨⟨y0,i,j,l⟩,b⟩:=vZ (a':= Qc 2) (b':= Qc p) (c':= .string (u.extract 0 k)) (d':= Qc v) E.o F.o;have h:Hid _:=b;clear y q a I z b;go_wp2;refine bodyPost_ret (v:= .tuple #[.agg #[Qc 2,Qc p,.string (u.extract 0 k),Qc v],Qc k,Qc 0]) (by simp[results,Tryz.results101,go_sem,y0,i,j,l]) rfl ⟨by rw[r.o];rfl,h.o⟩
     ·obtain rfl:k=0:=Oa
      have y:R=if vY u=⟨#[]⟩then(⟨0,0,⟨#[]⟩,0⟩,0,1)else(⟨3,p,vY u,0⟩,(vY u).size,0):=q.t Od
      have r:Hid _:=y;have hs:=HS.o f;clear y q a I z k8;generalize vY u=x at*;go_wp2_with fail
      refine hs.mono ?_;rintro e m ⟨rfl,rfl⟩;clear hs
      by_cases d:x=⟨#[]⟩
      ·have h0:Hid _:=r.o.t (if_pos d);have t2:x.toList.isEmpty=true:=by rw[d,Lib.toList_data];rfl
       obtain⟨⟨y0,i,j,l⟩,b⟩:=vZ (a':= Qc 0) (b':= Qc 0) (c':= .string ⟨#[]⟩) (d':= Qc 0) E.o F.o;have h:Hid _:=b;clear d b;go_wp2;refine bodyPost_ret (v:= .tuple #[.agg #[Qc 0,Qc 0,.string ⟨#[]⟩,Qc 0],Qc 0,Qc 1]) (by simp[results,Tryz.results101,go_sem,y0,i,j,l]) rfl ⟨by rw[h0.o];rfl,h.o⟩
      ·have h0:Hid _:=r.o.t (if_neg d)
       have t2:x.toList.isEmpty=false:=by
        rw[Lib.toList_data];cases hq:x.data.toList with
        |nil=>exact absurd (ByteArray.ext (Array.ext' hq)) d
        |cons=>rfl
       obtain⟨⟨y0,i,j,l⟩,b⟩:=vZ (a':= Qc 3) (b':= Qc p) (c':= .string x) (d':= Qc 0) E.o F.o;have h:Hid _:=b;clear d b;go_wp2;refine bodyPost_ret (v:= .tuple #[.agg #[Qc 3,Qc p,.string x,Qc 0],Qc x.size,Qc 0]) (by simp[results,Tryz.results101,go_sem,y0,i,j,l]) rfl ⟨by rw[h0.o];rfl,h.o⟩
open Go.ChangeMaps Go.MapKept
def qV(com:Bool)(c:Int):Bool:=com||(c==35)||(c==32)||(c==9)||(c==10)||(c==13)
def aBT(com:Bool)(c:Int):Bool:=(com||(c==35))&&(c !=10)
def wdL(s:ByteArray):Nat->Nat->Bool->List aU->List aU × Int × Int
 |0,_,_,l=>(l,0,0)
 |f+1,p,com,l=>if p < s.size then
   (if(uY (s.extract p s.size)).2=0 then([],1,p)
   else if qV com (uY (s.extract p s.size)).1=true then wdL s f (p+(uY (s.extract p s.size)).2.toNat) (aBT com (uY (s.extract p s.size)).1) l
   else if(jV s p).2.2≠0 then([],(jV s p).2.2,p)
   else wdL s f (p+(jV s p).2.1) com (l++[(jV s p).1]))
  else(l++[⟨0,s.size,⟨#[]⟩,0⟩],0,0)
def oP(s:ByteArray):List aU × Int × Int:=if 4000 < s.size then([],1,0)else wdL s (s.size+1) 0 false []
theorem aHJ{s:ByteArray}{p:Nat}(l:p < s.size)(h:(jV s p).2.2=0):1<=(jV s p).2.1/\p+(jV s p).2.1<=s.size:=by
 have cP:(s.extract p s.size).size=s.size - p:=Od
 unfold jV at h ⊢;dsimp only at h ⊢;generalize s.extract p s.size=u at*;have j:(nmQ u).1<=u.size:=aWW u (u.size+1) 0 0 Oa
 by_cases d:0 < (nmQ u).1
 ·grind
 rw[if_neg d]at h ⊢
 by_cases e:(dgQ u).2.2=true
 ·grind
 rw[if_neg e]at h ⊢
 by_cases b:0 < (dgQ u).1
 ·rw[if_pos b]
  have g:∀ (f k:Nat) (v:Int),k<=u.size->(dgL u f k v).1<=u.size:=by
   intro f
   induction f with
   |zero=>intro k v h;exact h
   |succ f ih=>
    grind[dgL]
  grind[dgQ]
 rw[if_neg b]at h ⊢
 by_cases c:vY u=⟨#[]⟩
 ·grind
 rw[if_neg c]
 have i:(vY u).size<=u.size:=by
  unfold vY
  split
  ·rw[ByteArray.size_extract];omega
  ·split
   ·rw[ByteArray.size_extract];omega
   ·exact Qn _
 have m:0 < (vY u).size:=by
  rcases Nat.eq_zero_or_pos (vY u).size with a|a
  ·exact absurd (ByteArray.ext (Array.eq_empty_of_size_eq_zero a)) c
  ·exact a
 grind
theorem aUN:(Tryz.prog.info? 220).map (fun i=>(i.zero,i.size,i.bytes))=some (some (.agg #[Qc 0,Qc 0,.string ⟨#[]⟩,Qc 0]),4,40):=by kernel_rfl
def aU8(s:ByteArray)(w:World):Ending->World->Prop:=fun e w'=>Below w.1.size w w'/\∃ v,e= .returned (.tuple #[v,.agg #[Qc (oP s).2.1,Qc (oP s).2.2]])/\w'.ownsRow (w.1.size+1) 220 4 v (oP s).1.length (dD (oP s).1)/\((oP s).2.1≠0->v= .slice none 0 0)
theorem aM9(s:ByteArray)(w:World):Calls Tryz.prog 60 #[.string s] w (aU8 s w):=by
 obtain⟨i0,z5,y7,y6,y5⟩:=info_parts aUN;obtain⟨o0,O⟩:∃ o:Obj,o= .cells #[Qc 0,Qc 0] 37:=⟨_,rfl⟩;have k0:(w.alloc o0).1[w.1.size]?=some (Qf #[Qc 0,Qc 0] 37):=by rw[O];exact Qk w _
 have b0:Below w.1.size w (w.alloc o0):=(Below.refl _ _).alloc Ol _;have s0:(w.alloc o0).1.size=w.1.size+1:=Od
 obtain⟨R,a⟩:∃ R,R=oP s:=⟨_,rfl⟩;unfold aU8;rw[<-a];unfold oP at a
 by_cases W:4000 < s.size
 ·have d:decide ((s.size:Int) > 4000)=true:=decide_eq_true Oa;rw[if_pos W]at a;have m:Hid _:=a;obtain⟨D,E,z1⟩:=fE k0;obtain⟨x0,F⟩:=iC (w:=w.alloc o0) (u0:= Qc 1) (u1:= Qc 0) D E;have j:Hid (Below w.1.size w (((w.alloc o0).setCell ⟨w.1.size,0,none⟩ (Qc 1)).setCell ⟨w.1.size,1,none⟩ (Qc 0))):=(b0.setCell (p:=⟨w.1.size,0,none⟩) Ol _).setCell (p:=⟨w.1.size,1,none⟩) Ol _;clear a k0 b0 W;go_enter Tryz.func60,Tryz.ntmps60
  go_upto_region 1 with fail
  rw[<-O];clear O;generalize w.alloc o0=W0 at*;go_wp2;refine bodyPost_ret (v:= .tuple #[.slice none 0 0,.agg #[Qc 1,Qc 0]]) (by simp[results,Tryz.results60,go_sem,x0,F]) rfl ?_;rw[m.o];exact⟨j.o,_,rfl,World.ownsRow_nil _ _ _ _,fun _=>rfl⟩
 have hz:s.size<=4000:=Oa
 have d:decide ((s.size:Int) > 4000)=false:=decide_eq_false Oa;rw[if_neg W]at a;have m:Hid _:=a;have z8:Hid _:=k0;have z9:Hid _:=b0;clear a k0 b0 W;go_enter Tryz.func60,Tryz.ntmps60
 go_upto_region 1 with fail
 rw[<-O];clear O;generalize w.alloc o0=W0 at*;go_wp2_with fail
 go_loopg [4,5,6,7,8,9,10] (s.size+1) (fun Y x4 x5 x6 x7 x8 x9 b6 wr=>∃ (p:Nat) (b:Bool) (l:List aU),x5= .bool b/\x6= Qc p/\p<=s.size/\s.size+1<=p+Y/\l.length<=p/\R=wdL s Y p b l/\wr.ownsRow (w.1.size+1) 220 4 x4 l.length (dD l)/\Below w.1.size w wr/\wr.1[w.1.size]?=some (Qf #[Qc 0,Qc 0] 37))
 case atStart=>exact⟨0,false,[],rfl,rfl,Qn _,Oa,Ql _,m.o,World.ownsRow_nil _ _ _ _,z9.o,z8.o⟩
 case round=>
  clear m z8 z9 s0
  rename World=>WR
  obtain⟨p,b,l,rfl,rfl,hp,hm,z4,a,h0,M,i⟩:=hrel;obtain⟨g,rfl⟩:∃ Y,gk=Y+1:=⟨gk - 1,Oa⟩;unfold wdL at a
  by_cases J:p < s.size
  ·rw[if_pos J]at a;have k9:(p:Int) < (s.size:Int):=Oa
   have b4:0<=(p:Int)/\(p:Int)<=(s.size:Int):=Oa
   have cP:(s.extract p s.size).size=s.size - p:=by rw[ByteArray.size_extract];omega
   have z6:=aTQ (s.extract p s.size) WR Oa Oa;have y9:=aDX (s.extract p s.size) Oa;generalize uY (s.extract p s.size)=c at*;obtain⟨c,a3⟩:=c;have T:Hid (p < s.size/\s.size+1<=p+(g+1)/\l.length<=p/\(s.extract p s.size).size=s.size - p):=⟨J,hm,z4,cP⟩;have m:Hid _:=a;have G:Hid _:=h0;have j:Hid (Below w.1.size w WR):=M;have q:Hid _:=i;have V:Hid _:=y9;clear a h0 M i y9 hm z4 hp cP;go_wp2_with fail
   refine z6.mono ?_;rintro e w' ⟨rfl,rfl⟩;clear z6
   by_cases z:a3=0
   ·have t0:(a3==0)=true:=by simp[z]
    have y2:Hid (R=([],1,(p:Int))):=m.o.t (if_pos z);obtain⟨D,E,z1⟩:=fE q.o;obtain⟨x0,F⟩:=iC (w:=WR) (u0:= Qc 1) (u1:= Qc p) D E;have B:Hid (Below w.1.size w ((WR.setCell ⟨w.1.size,0,none⟩ (Qc 1)).setCell ⟨w.1.size,1,none⟩ (Qc p))):=(j.o.setCell (p:=⟨w.1.size,0,none⟩) Ol _).setCell (p:=⟨w.1.size,1,none⟩) Ol _;clear z;go_wp2;refine bodyPost_ret (v:= .tuple #[.slice none 0 0,.agg #[Qc 1,Qc p]]) (by simp[results,Tryz.results60,go_sem,x0,F]) rfl ?_;rw[y2.o];exact⟨B.o,_,rfl,World.ownsRow_nil _ _ _ _,fun _=>rfl⟩
   ·have t0:(a3==0)=false:=by simp[z]
    have K:Hid _:=m.o.t (if_neg z);obtain⟨g1,g2,g3,L,j1⟩:=V.o.resolve_left (fun h=>z h.1);have y:Hid (1<=L/\p+L<=s.size):=by have:=T.o;rw[Hid];omega
    subst j1;clear z g1 g2 g3;go_upto_region 10 with fail
    go_cut [5,7,50]from 15 to 81 (fun a5 a6 a7 w'=>a5= .bool b/\a6= Qc c/\a7= .bool (qV b c)/\WR=w')
    case first=>
     clear m K G j q V y T;cases b
     ·rcases(show c=35\/c=32\/c=9\/c=10\/c=13\/(c≠35/\c≠32/\c≠9/\c≠10/\c≠13)by omega)with rfl|rfl|rfl|rfl|rfl|⟨n,h2,h3,h4,h5⟩
      all_goals
       try
        have e1:(c==35)=false:=by simp[n]
        have e2:(c==32)=false:=by simp[h2]
        have e3:(c==9)=false:=by simp[h3]
        have e4:(c==10)=false:=by simp[h4]
        have e5:(c==13)=false:=by simp[h5]
        have f:Hid (qV false c=false):=by unfold qV;rw[Hid,e1,e2,e3,e4,e5];rfl
        clear n h2 h3 h4 h5
       go_wp2;go_meet
       case rel=>exact⟨rfl,rfl,by first|rfl|rw[f.o],rfl⟩
     ·go_wp2;go_meet
      case rel=>exact⟨rfl,rfl,rfl,rfl⟩
    case rest=>
     obtain⟨rfl,rfl,rfl,rfl⟩:=hcut;have hI:=T.o;cases hsp:qV b c
     ·have A:Hid _:=K.o.t (if_neg (by show ¬qV b c=true;rw[hsp];decide));have y8:=aXF s p WR J hz;have k7:=fun h=>aHJ J (s:=s) h;generalize jV s p=a8 at*;obtain⟨U,x,er⟩:=a8;obtain⟨C,k8⟩:∃ o:Obj,o= .cells #[Qc U.d,Qc U.e,.string U.f,Qc U.a] 220:=⟨_,rfl⟩;clear m K hsp y V;go_wp2_with fail
      refine y8.mono ?_;rintro e k ⟨rfl,b1⟩;clear y8;unfold aZK;have a9:=b1.size;have y1:=(Oo q.o);have s2:(k.alloc C).1.size=k.1.size+1:=Od
      have kW:(k.alloc C).1[k.1.size]?=some (Qf #[Qc U.d,Qc U.e,.string U.f,Qc U.a] 220):=by rw[k8];exact Qk k _
      have a4:∀ N,N < WR.1.size->(k.alloc C).1[N]?=WR.1[N]?:=fun N hi=>(On Oa).t (b1.block N hi);have B:Hid (Below w.1.size w (k.alloc C)):=(j.o.t (b1.mono j.o.size)).alloc (Oi j.o.size) _;have y4:Hid _:=(a4 _ y1).t q.o;have j2:Hid ((k.alloc C).ownsRow (w.1.size+1) 220 4 u4 l.length (dD l)):=aR G.o (fun u i=>a4 u (World.ownsRow.lt (w:=WR) G.o u i).2);clear b1 a4 j q G;go_upto_region 14 with fail
      rw[<-k8];clear k8;obtain⟨z0,z1,z2,z3,_⟩:=pE kW;have b2:k.1.size < (k.alloc C).1.size:=Oa
      have b5:w.1.size+1<=k.1.size:=Oa
      clear s2;generalize k.alloc C=r at*
      by_cases f:er=0
      ·have e1:(er !=0)=false:=by simp[f]
       have y3:Hid (R=wdL s g (p+x) b (l++[U])):=A.o.t (if_neg (by simp[f]));obtain⟨Z,m2⟩:=k7 f;have Z:1<=x:=Z;have m2:p+x<=s.size:=m2;have h0:=j2.o;have HM:Hid (1<=x/\p+x<=s.size):=⟨Z,m2⟩;have j0:IntKind.i64.wrap ((p:Int)+(x:Int))=(p:Int)+(x:Int):=IntWalk.i64_in _ Oa;clear f k7 A kW;go_wp2_with (at_builtin;refine wpList_append_lies _ rfl _ _ 71 rfl (w.1.size+1) 220 i0 _ 4 40 Tryz.underlying71 z5 y7 y6 y5 rfl Oa u4 l.length (dD l) rfl (h0.alloc _) ⟨r.1.size,0,none⟩ 1 1 (aU.cells U) rfl rfl (World.news_of_block (cs:=#[Qc U.d,Qc U.e,.string U.f,Qc U.a]) (t:=220) (fr:=(0,0)) (Qk r _)) (by simp[aU.cells,Value.oneCell']) Oa (by unfold maxLen;omega) Oa (by simp;omega) (r.1.size+1) Od ?_;intro gg a2 H P I z7 k5)
       have b3:w.1.size≠r.1.size:=by have:=B.o.size;omega
       have Q:Below w.1.size w H:=(B.o.alloc B.o.size _).grown I (by have:=B.o.size;simp;omega) (fun u i=>by have:=(World.ownsRow.lt (w:=r) h0 u i).1;omega);have X:u4.ownBlock≠some w.1.size:=fun e=>by have:=(World.ownsRow.lt (w:=r) h0 _ e).1;omega
       have y0:=(Oo y4.o);have S:=(I.block w.1.size (by simp;omega) (fun e=>X e.symm)).t ((Below.heap_alloc r _ w.1.size y0).t y4.o)
       have FO:H.ownsRow (w.1.size+1) 220 4 (Qe gg (l.length+1) a2) (l++[U]).length (dD (l++[U])):=by
        have e1:dD (l++[U])=dD l++aU.cells U:=by unfold dD;rw[List.flatMap_append];simp
        rw[e1,List.length_append];exact P
       have HF:Hid _:=FO;have j3:Hid _:=S;have j4:Hid _:=Q;clear P I z7 k5 FO S Q X h0 Z m2;go_wp2;go_roundg g
       case rel=>exact⟨p+x,b,l++[U],rfl,Od,HM.o.2,Oi HM.o,by have:=HM.o;rw[List.length_append];simp;omega,y3.o,HF.o,j4.o,j3.o⟩
       case measure=>omega
      ·have e1:(er !=0)=true:=by simp[f]
       have y3:Hid (R=([],er,(p:Int))):=A.o.t (if_pos f);obtain⟨D,E,z1⟩:=fE y4.o;obtain⟨x0,F⟩:=iC (w:=r) (u0:= Qc er) (u1:= Qc p) D E;have j5:Hid (Below w.1.size w ((r.setCell ⟨w.1.size,0,none⟩ (Qc er)).setCell ⟨w.1.size,1,none⟩ (Qc p))):=(B.o.setCell (p:=⟨w.1.size,0,none⟩) Ol _).setCell (p:=⟨w.1.size,1,none⟩) Ol _;clear f k7 A kW;go_wp2;refine bodyPost_ret (v:= .tuple #[.slice none 0 0,.agg #[Qc er,Qc p]]) (by simp[results,Tryz.results60,go_sem,x0,F]) rfl ?_;rw[y3.o];exact⟨j5.o,_,rfl,World.ownsRow_nil _ _ _ _,fun _=>rfl⟩
     ·have A:Hid (R=wdL s g (p+L) (aBT b c) l):=K.o.t (if_pos hsp);have j0:IntKind.i64.wrap ((p:Int)+(L:Int))=(p:Int)+(L:Int):=IntWalk.i64_in _ (Oi y.o);go_upto_region 11 with fail
      go_cut [5,7,59]from 15 to 81 (fun a5 a6 a7 w'=>a5= .bool (aBT b c)/\a6= Qc c/\WR=w')
      case first=>
       clear m K A G j q V y T hsp;cases b
       ·by_cases n:c=35
        ·subst n;go_wp2;go_meet
         case rel=>exact⟨rfl,rfl,rfl⟩
        ·have e1:(c==35)=false:=by simp[n]
         have f:Hid (aBT false c=false):=by unfold aBT;rw[Hid,e1];rfl
         clear n;go_wp2;go_meet
         case rel=>exact⟨by rw[f.o],rfl,rfl⟩
       ·by_cases n:c=10
        ·subst n;go_wp2;go_meet
         case rel=>exact⟨rfl,rfl,rfl⟩
        ·have e1:(c !=10)=true:=by simp[n]
         have f:Hid (aBT true c=true):=by unfold aBT;rw[Hid,e1];rfl
         clear n;go_wp2;go_meet
         case rel=>exact⟨by rw[f.o],rfl,rfl⟩
      case rest=>
       obtain⟨rfl,rfl,rfl⟩:=hcut;clear hsp m K;go_wp2;go_roundg g
       case rel=>exact⟨p+L,_,l,rfl,Od,y.o.2,Oi y.o,Oi y.o,A.o,G.o,j.o,q.o⟩
       case measure=>omega
  ·have k9: ¬(p:Int) < (s.size:Int):=Oa
   rw[if_neg J]at a;have y2:Hid _:=a;have j:Hid (Below w.1.size w WR):=M;have q:Hid _:=i;have cP:=M.size;have y1:=(Oo i);have X: ¬some w.1.size=u4.ownBlock:=fun e=>by have:=(World.ownsRow.lt (w:=WR) h0 _ e.symm).1;omega
   clear a M i J;go_upto_region 18 with fail
   go_wp2_with (at_builtin;refine wpList_append_lies _ rfl _ _ 71 rfl (w.1.size+1) 220 i0 _ 4 40 Tryz.underlying71 z5 y7 y6 y5 rfl Oa u4 l.length (dD l) rfl (h0.alloc _) ⟨WR.1.size,0,none⟩ 1 1 (aU.cells ⟨0,s.size,⟨#[]⟩,0⟩) rfl rfl (World.news_of_block (cs:=#[Qc 0,Qc s.size,.string ⟨#[]⟩,Qc 0]) (t:=220) (fr:=(0,0)) (Qk WR _)) (by simp[aU.cells,Value.oneCell']) Oa (by unfold maxLen;omega) Oa (by simp;omega) (WR.1.size+1) Od ?_;intro gg a2 H P I z7 k5;have S:=(I.block w.1.size (by simp;omega) X).t ((Below.heap_alloc WR _ w.1.size y1).t q.o);obtain⟨D,E,z1⟩:=fE S)
   obtain⟨x0,F⟩:=iC (w:=H) (u0:= Qc 0) (u1:= Qc 0) D E;have Q:Below w.1.size w H:=(j.o.alloc cP _).grown I (by simp;omega) (fun u i=>by have:=(World.ownsRow.lt (w:=WR) h0 u i).1;omega);refine bodyPost_ret (v:= .tuple #[Qe gg (l.length+1) a2,.agg #[Qc 0,Qc 0]]) (by simp[results,Tryz.results60,go_sem,x0,F]) rfl ?_;have e1:dD (l++[⟨0,s.size,⟨#[]⟩,0⟩])=dD l++aU.cells ⟨0,s.size,⟨#[]⟩,0⟩:=by unfold dD;rw[List.flatMap_append];simp
   rw[y2.o];refine⟨(Q.setCell (p:=⟨w.1.size,0,none⟩) Ol _).setCell (p:=⟨w.1.size,1,none⟩) Ol _,_,rfl,?_,fun h=>absurd rfl h⟩;show World.ownsRow _ _ _ _ _ (l++[_]).length (dD (l++[_]));rw[e1,List.length_append];exact aR P (fun u i=>mV u (Oi ((World.ownsRow.lt (w:=H) P u i).1)))
def I6(a:Int):Prop:=-9223372036854775808<=a/\a<=9223372036854775807
def Rk(r:Int × Int):Prop:=-9223372036854775808<=r.1/\r.1<=r.2/\r.2<=9223372036854775807
abbrev vN(r:Int × Int):Value:= .agg #[Qc r.1,Qc r.2]
theorem iJ{b:Nat}{w w':World}(h:Below b w w')(n:Nat):Below b w (w'.drewN n):=⟨h.1,h.2,h.3,h.4,h.5⟩
theorem oO{W w1:World}(a:Below W.1.size W w1):(∀ b o,b < W.1.size->w1.cell? ⟨b,o,none⟩=W.cell? ⟨b,o,none⟩)/\(∀ b o,b < W.1.size->w1.frozen? ⟨b,o,none⟩=W.frozen? ⟨b,o,none⟩):=
 ⟨fun b o h=>a.cell (p:=⟨b,o,none⟩) h,fun b o h=>a.frozen (p:=⟨b,o,none⟩) h⟩
theorem cP(w:World)(o:Obj):(w.alloc o).1.size=w.1.size+1:=Od
theorem iM(w:World)(o:Obj)(k:Nat):(w.alloc o).1[k]?=if k=w.1.size then some o else w.1[k]?:=by
 by_cases h:k=w.1.size
 ·grind[heap_alloc_new]
 ·rw[if_neg h];rcases Qt k w.1.size with a|a
  ·grind[Below.heap_alloc]
  ·rw[Array.getElem?_eq_none a,Array.getElem?_eq_none (by simp;omega)]
theorem al1(w:World)(a:Obj):∃ W,W=w.alloc a/\Below w.1.size w W/\W.1.size=w.1.size+1/\W.1[w.1.size]?=some a:=⟨_,rfl,(Below.refl _ _).alloc Ol _,cP _ _,Qk _ _⟩
theorem al2(w:World)(a b:Obj):∃ W,W=(w.alloc a).alloc b/\Below w.1.size w W/\W.1.size=w.1.size+2/\W.1[w.1.size]?=some a/\W.1[w.1.size+1]?=some b:=by
 obtain⟨W,h,k,z,q⟩:=al1 w a;exact⟨_,rfl,by rw[<-h];exact k.alloc k.size b,by rw[<-h,cP,z],by rw[<-h,iM,Oh];exact q,by rw[<-h,<-z];exact Qk _ _⟩
theorem al3(w:World)(a b c:Obj):∃ W,W=((w.alloc a).alloc b).alloc c/\Below w.1.size w W/\W.1.size=w.1.size+3/\W.1[w.1.size]?=some a/\W.1[w.1.size+1]?=some b/\W.1[w.1.size+1+1]?=some c:=by
 obtain⟨W,h,k,z,q,d⟩:=al2 w a b;exact⟨_,rfl,by rw[<-h];exact k.alloc k.size c,by rw[<-h,cP,z],by rw[<-h,iM,Oh];exact q,by rw[<-h,iM,Oh];exact d,by rw[<-h,iM,if_pos Oa]⟩
theorem al4(w:World)(a b c d:Obj):∃ W,W=(((w.alloc a).alloc b).alloc c).alloc d/\Below w.1.size w W/\W.1.size=w.1.size+4/\W.1[w.1.size]?=some a/\W.1[w.1.size+1]?=some b/\W.1[w.1.size+1+1]?=some c/\W.1[w.1.size+1+1+1]?=some d:=by
 obtain⟨W,h,k,z,q,e,f⟩:=al3 w a b c;exact⟨_,rfl,by rw[<-h];exact k.alloc k.size d,by rw[<-h,cP,z],by rw[<-h,iM,Oh];exact q,by rw[<-h,iM,Oh];exact e,by rw[<-h,iM,Oh];exact f,by rw[<-h,iM,if_pos Oa]⟩
theorem tY(w:World):Calls Tryz.prog 111 #[] w fun e a=>e= .returned (vN (-9223372036854775808,9223372036854775807))/\Below w.1.size w a:=by
 go_enter Tryz.func111,Tryz.ntmps111
 go_wp2;exact bodyPost_ret (v:=vN (-9223372036854775808,9223372036854775807)) (by simp[results,Tryz.results111,go_sem]) rfl ⟨rfl,(Below.refl _ _).alloc Oa _⟩
theorem sL(a:Int):I6 (wrap64 a):=by
 unfold I6 wrap64;omega
def aZ2(w:World):Ending->World->Prop:=fun e w'=>∃ n ok,e= .returned (.tuple #[Qc n,.bool ok])/\I6 n/\Below w.1.size w w'
theorem aPN(op:ByteArray)(a b:Int)(w:World)(g:I6 a)(h:I6 b):Calls Tryz.prog 293 #[.string op,Qc a,Qc b] w (aZ2 w):=by
 obtain⟨a1,i⟩:=g;obtain⟨b1,j⟩:=h
 by_cases c:(op.toList==[43])=true
 ·go_enter Tryz.func293,Tryz.ntmps293
  go_wp2
  all_goals go_ret2
  all_goals exact⟨_,_,rfl,sL _,Below.refl _ _⟩
 by_cases d:(op.toList==[45])=true
 ·have c:(op.toList==[43])=false:=by simpa using c
  go_enter Tryz.func293,Tryz.ntmps293
  go_wp2
  all_goals go_ret2
  all_goals exact⟨_,_,rfl,sL _,Below.refl _ _⟩
 have c:(op.toList==[43])=false:=by simpa using c
 have d:(op.toList==[45])=false:=by simpa using d
 by_cases h0:a=0\/b=0
 ·have h0:(a==0)=true\/((a==0)=false/\(b==0)=true):=by
   by_cases e:a=0
   ·exact .l (by simp[e])
   ·exact .r ⟨by simp[e],by simp[h0.resolve_left e]⟩
  rcases h0 with h0|⟨h0,k⟩
  all_goals
   go_enter Tryz.func293,Tryz.ntmps293
   go_wp2;go_ret2
   exact⟨_,_,rfl,by unfold I6;omega,Below.refl _ _⟩
 have f:b≠0:=fun e=>h0 (.r e);have l:(a==0)=false:=by simpa using fun e=>h0 (.l e)
 have m:(b==0)=false:=by simpa using f
 clear h0;go_enter Tryz.func293,Tryz.ntmps293
 go_wp2
 all_goals first
  |(go_ret2
    exact⟨_,_,rfl,by unfold I6;omega,Below.refl _ _⟩)
  |(go_quiet (fail)
    go_wp2;go_ret2
    exact⟨_,_,rfl,by first|exact sL _|(unfold I6;omega),iJ (Below.refl _ _) _⟩)
def aE4(w:World):Ending->World->Prop:=fun e w'=>∃ r,e= .returned (vN r)/\Rk r/\Below w.1.size w w'
theorem aYC(a b:Int × Int)(w:World)(_:Rk a)(h:Rk b):Calls Tryz.prog 292 #[vN a,vN b] w (aE4 w):=by
 obtain⟨a1,j⟩:=a;obtain⟨b1,k⟩:=b;obtain⟨d,f,g⟩:=h;dsimp only at d f g;go_enter Tryz.func292,Tryz.ntmps292
 go_wp2_with (go_at_call 111;refine(tY _).mono ?_;rintro e W ⟨rfl,c⟩;obtain⟨i,l⟩:=oO c)
 all_goals first
  |exact bodyPost_ret (v:=vN (_,_)) (by simp[results,Tryz.results292,go_sem];first|exact⟨rfl,rfl⟩|rfl) rfl ⟨_,rfl,(by unfold Rk;first|omega|(unfold wrap64;omega)),(by
    repeat (first|exact Below.refl _ _|refine Qv ?_ (by first|(simp;done)|(simp;omega)) _|refine Below.alloc ?_ (by first|(simp;done)|(simp;omega)) _))⟩
  |exact bodyPost_ret (v:=vN (_,_)) (by simp[results,Tryz.results292,go_sem,i];exact⟨rfl,rfl⟩) rfl ⟨_,rfl,(by unfold Rk;omega),(by
    refine Qv (Qv (Below.t ?_ (c.mono (by simp;omega))) (by simp;omega) _) (by simp;omega) _
    repeat (first|exact Below.refl _ _|refine Below.alloc ?_ (by first|(simp;done)|(simp;omega)) _))⟩
theorem aHI(op:ByteArray)(a b:Int × Int)(w:World)(C:Rk a)(X:Rk b):Calls Tryz.prog 232 #[.string op,vN a,vN b] w (aE4 w):=by
 by_cases Z:(op.toList==[37])=true
 ·go_enter Tryz.func232,Tryz.ntmps232
  go_wp2_with (go_at_call 292;refine(aYC a b _ C X).mono ?_;rintro e W ⟨⟨r1,r2⟩,rfl,hr,c⟩;obtain⟨m,Y⟩:=oO c)
  exact bodyPost_ret (v:=vN (r1,r2)) (by simp[results,Tryz.results232,go_sem,m]) rfl ⟨_,rfl,hr,(by
   refine Qv (Qv (Below.t ?_ (c.mono (by simp;omega))) (by simp;omega) _) (by simp;omega) _
   repeat (first|exact Below.refl _ _|refine Below.alloc ?_ (by first|(simp;done)|(simp;omega)) _))⟩
 have Z:(op.toList==[37])=false:=by simpa using Z
 obtain⟨a1,g⟩:=a;obtain⟨b1,d⟩:=b;obtain⟨h1,h2,h3⟩:=X;obtain⟨g1,g2,g3⟩:=C;dsimp only at h1 h2 h3 g1 g2 g3
 by_cases h0:(op.toList==[47])=true/\((b1<=0/\0<=d)\/a1= -9223372036854775808)
 ·obtain⟨F,h0⟩:=h0
  have m:(decide (b1<=0)=true/\decide (d≥0)=true)\/(decide (b1<=0)=false/\(a1==-9223372036854775808)=true)\/(decide (b1<=0)=true/\decide (d≥0)=false/\(a1==-9223372036854775808)=true):=by
   by_cases e:b1<=0
   ·by_cases M:0<=d
    ·exact .l ⟨by simp[e],by simp[M]⟩
    ·exact .r (.r ⟨by simp[e],by simp;omega,by simp;omega⟩)
   ·exact .r (.l ⟨by simp;omega,by simp;omega⟩)
  rcases m with⟨K,L⟩|⟨K,L⟩|⟨K,L,p3⟩
  all_goals
   go_enter Tryz.func232,Tryz.ntmps232
   go_wp2_with (go_at_call 111;refine(tY _).mono ?_;rintro e W ⟨rfl,c⟩;obtain⟨m,Y⟩:=oO c)
   exact bodyPost_ret (v:=vN (_,_)) (by simp[results,Tryz.results232,go_sem,m];exact⟨rfl,rfl⟩) rfl ⟨_,rfl,(by unfold Rk;omega),(by
    refine Qv (Qv (Below.t ?_ (c.mono (by simp;omega))) (by simp;omega) _) (by simp;omega) _
    repeat (first|exact Below.refl _ _|refine Below.alloc ?_ (by first|(simp;done)|(simp;omega)) _))⟩
 have D:∀ j:Nat,j < 4->∃ x,(#[Qc a1,Qc a1,Qc g,Qc g])[j]?=some (Qc x)/\I6 x:=by
  intro j hj;rcases(by omega:j=0\/j=1\/j=2\/j=3)with rfl|rfl|rfl|rfl
  all_goals exact⟨_,rfl,by unfold I6;omega⟩
 have E:∀ j:Nat,j < 4->∃ x,(#[Qc b1,Qc d,Qc b1,Qc d])[j]?=some (Qc x)/\I6 x/\((op.toList==[47])=true->x≠0):=by
  intro j hj;rcases(by omega:j=0\/j=1\/j=2\/j=3)with rfl|rfl|rfl|rfl
  all_goals exact⟨_,rfl,by unfold I6;omega,fun e e0=>h0 ⟨e,Oa⟩⟩
 obtain⟨f,l⟩:∃ f,f=((((((w.alloc (Qf #[Qc a1,Qc g] 232)).alloc (Qf #[Qc b1,Qc d] 232)).alloc (Qf #[Qc 0,Qc 0] 232)).alloc (Qf #[Qc 9223372036854775807,Qc (-9223372036854775808)] 232)).alloc (Qf #[Qc a1,Qc a1,Qc g,Qc g] 2)).alloc (Qf #[Qc b1,Qc d,Qc b1,Qc d] 2)):=⟨_,rfl⟩
 have p:f.1[w.1.size+1+1]?=some (Qf #[Qc 0,Qc 0] 232):=by
  rw[l]
  repeat (first|rw[iM,if_neg (by simp only[cP];omega)]|rw[iM,if_pos (by simp only[cP])])
 have r:f.1[w.1.size+1+1+1]?=some (Qf #[Qc 9223372036854775807,Qc (-9223372036854775808)] 232):=by
  rw[l]
  repeat (first|rw[iM,if_neg (by simp only[cP];omega)]|rw[iM,if_pos (by simp only[cP])])
 have z:f.1[w.1.size+1+1+1+1]?=some (Qf #[Qc a1,Qc a1,Qc g,Qc g] 2):=by
  rw[l]
  repeat (first|rw[iM,if_neg (by simp only[cP];omega)]|rw[iM,if_pos (by simp only[cP])])
 have A:f.1[w.1.size+1+1+1+1+1]?=some (Qf #[Qc b1,Qc d,Qc b1,Qc d] 2):=by
  rw[l]
  repeat (first|rw[iM,if_neg (by simp only[cP];omega)]|rw[iM,if_pos (by simp only[cP])])
 have y:Below w.1.size w f:=by
  rw[l]
  repeat (first|exact Below.refl _ _|refine Below.alloc ?_ (by first|(simp;done)|(simp;omega)) _)
 have O:f.1.size=w.1.size+6:=by rw[l];simp only[cP]
 have m:(op.toList==[47])=false\/((op.toList==[47])=true/\decide (b1<=0)=false/\(a1==-9223372036854775808)=false)\/((op.toList==[47])=true/\decide (b1<=0)=true/\decide (d≥0)=false/\(a1==-9223372036854775808)=false):=by
  cases h:(op.toList==[47])with
  |false=>exact .l rfl
  |true=>
   have C:(a1==-9223372036854775808)=false:=by
    have:a1≠-9223372036854775808:=fun e=>h0 ⟨h,.r e⟩;simp[this]
   by_cases e:b1<=0
   ·exact .r (.r ⟨rfl,by simp[e],decide_eq_false (fun M=>h0 ⟨h,.l ⟨e,M⟩⟩),C⟩)
   ·exact .r (.l ⟨rfl,by simp[e],C⟩)
 have s:Hid ((f.1[w.1.size+1+1]?=some (Qf #[Qc 0,Qc 0] 232)/\f.1[w.1.size+1+1+1]?=some (Qf #[Qc 9223372036854775807,Qc (-9223372036854775808)] 232)/\f.1[w.1.size+1+1+1+1]?=some (Qf #[Qc a1,Qc a1,Qc g,Qc g] 2)/\f.1[w.1.size+1+1+1+1+1]?=some (Qf #[Qc b1,Qc d,Qc b1,Qc d] 2))/\Below w.1.size w f/\f.1.size=w.1.size+6):=⟨⟨p,r,z,A⟩,y,O⟩;clear p r z A y O;have HX:Hid (∀ j:Nat,j < 4->∃ x,(#[Qc a1,Qc a1,Qc g,Qc g])[j]?=some (Qc x)/\I6 x):=D;have HY:Hid (∀ j:Nat,j < 4->∃ x,(#[Qc b1,Qc d,Qc b1,Qc d])[j]?=some (Qc x)/\I6 x/\((op.toList==[47])=true->x≠0)):=E;have P:Hid (f=_):=l;clear D E l h0;rcases m with F|⟨F,K,L⟩|⟨F,K,L,p3⟩
 all_goals
  go_enter Tryz.func232,Tryz.ntmps232
  go_wp2_with fail
  rw[<-P.o];go_loopg [10] 5 (fun n a4 wr=>∃ (i:Nat) (lo hi:Int),a4= Qc i/\i+n=5/\i<=4/\wr.1[w.1.size+1+1]?=some (Qf #[Qc 0,Qc 0] 232)/\wr.1[w.1.size+1+1+1]?=some (Qf #[Qc lo,Qc hi] 232)/\wr.1[w.1.size+1+1+1+1]?=some (Qf #[Qc a1,Qc a1,Qc g,Qc g] 2)/\wr.1[w.1.size+1+1+1+1+1]?=some (Qf #[Qc b1,Qc d,Qc b1,Qc d] 2)/\Below w.1.size w wr/\w.1.size+6<=wr.1.size/\I6 lo/\I6 hi/\(0 < i->lo<=hi))
  case atStart=>exact⟨0,_,_,rfl,rfl,Oa,s.o.1.1,s.o.1.2.1,s.o.1.2.2.1,s.o.1.2.2.2,s.o.2.1,Nat.le_of_eq s.o.2.2.symm,by unfold I6;omega,by unfold I6;omega,fun h=>Oa⟩
  case round=>
   clear s P;obtain⟨i,lo,hi,rfl,a9,a8,p,r,z,A,y,O,jl,jh,N⟩:=hrel;obtain⟨j1,j2⟩:=jl;obtain⟨j3,j4⟩:=jh;have S:wr.cell? ⟨w.1.size+1+1+1,0,none⟩=some (Qc lo):=Og r rfl
   have T:wr.cell? ⟨w.1.size+1+1+1,1,none⟩=some (Qc hi):=Og r rfl
   have f3:∀ o,wr.frozen? ⟨w.1.size+1+1+1,o,none⟩=false:=fun o=>by simp[World.frozen?,r]
   have Q:wr.cell? ⟨w.1.size+1+1,0,none⟩=some (Qc 0):=Og p rfl
   have R:wr.cell? ⟨w.1.size+1+1,1,none⟩=some (Qc 0):=Og p rfl
   have U:∀ o,wr.frozen? ⟨w.1.size+1+1,o,none⟩=false:=fun o=>by simp[World.frozen?,p]
   by_cases V:i < 4
   ·obtain⟨x,D,k0,h9⟩:=HX.o i V;obtain⟨a3,E,⟨h8,h7⟩,I⟩:=HY.o i V;have c4:wr.cell? ⟨w.1.size+1+1+1+1,i,none⟩=some (Qc x):=Og z D
    have c5:wr.cell? ⟨w.1.size+1+1+1+1+1,i,none⟩=some (Qc a3):=Og A E
    have tl:decide ((i:Int) < 4)=true:=by simp;omega
    have a7:0<=(i:Int)/\(i:Int) < 4:=Oa
    have b2:IntKind.i64.wrap ((i:Int)+1)=(i:Int)+1:=IntWalk.i64_in _ Oa;obtain⟨n2,rfl⟩:=Oj gk;clear D E;go_upto_if 13 with fail
    go_cut [11,12]from 55 to 97 (fun a5 a6 wx=>∃ n ok,a5= Qc n/\a6= .bool ok/\I6 n/\Below wr.1.size wr wx)
    case first=>
     rcases Bool.eq_false_or_eq_true (op.toList==[47])with q|q
     ·first
       |exact absurd (F.symm.t q) Ob
       |(have y0:=I q
         clear I;go_upto_region 14 with fail
         go_quiet (fail)
         go_wp2;go_meet;exact⟨_,_,rfl,rfl,by first|exact sL _|(unfold I6;omega),iJ (Below.refl _ _) _⟩)
     ·first
       |exact absurd (F.symm.t q) Ob
       |(clear I
         go_upto_region 15 with fail
         go_region_with (go_at_call 293;refine(aPN op x a3 _ ⟨k0,h9⟩ ⟨h8,h7⟩).mono ?_;rintro e W ⟨n,ok,rfl,hn,c⟩)
         all_goals go_wp2
         all_goals go_meet
         all_goals exact⟨_,_,rfl,rfl,hn,⟨c.1,c.2,c.3,c.4,c.5⟩⟩)
    case rest=>
     obtain⟨n,ok,rfl,rfl,⟨n1,b3⟩,c⟩:=hcut;have hz:=c.size;have t:=(c.block _ Oa).t p;have u:=(c.block _ Oa).t r;have G:=(c.block _ Oa).t z;have H:=(c.block _ Oa).t A;have B:=y.t (c.mono y.size);clear S T f3 Q R U c4 c5 p r z A y c I;have S:wc.cell? ⟨w.1.size+1+1+1,0,none⟩=some (Qc lo):=Og u rfl
     have T:wc.cell? ⟨w.1.size+1+1+1,1,none⟩=some (Qc hi):=Og u rfl
     have f3:∀ o,wc.frozen? ⟨w.1.size+1+1+1,o,none⟩=false:=fun o=>by simp[World.frozen?,u]
     cases ok
     ·have Q:wc.cell? ⟨w.1.size+1+1,0,none⟩=some (Qc 0):=Og t rfl
      have R:wc.cell? ⟨w.1.size+1+1,1,none⟩=some (Qc 0):=Og t rfl
      have U:∀ o,wc.frozen? ⟨w.1.size+1+1,o,none⟩=false:=fun o=>by simp[World.frozen?,t]
      have zz:w.1.size+1+1 < wc.1.size:=Oa
      go_wp2_with (go_at_call 111;refine(tY _).mono ?_;rintro e W ⟨rfl,c⟩;obtain⟨m,Y⟩:=oO c)
      exact bodyPost_ret (v:=vN (_,_)) (by simp[results,Tryz.results232,go_sem, *];exact⟨rfl,rfl⟩) rfl ⟨_,rfl,(by unfold Rk;omega),(by
       refine Qv (Qv (Below.t B (c.mono Oa)) (by simp;omega) _) (by simp;omega) _)⟩
     ·have k:∀ J o a2,J≠w.1.size+1+1+1->∀ W:World,(W.setCell ⟨w.1.size+1+1+1,o,none⟩ a2).1[J]?=W.1[J]?:=fun J o a2 hk W=>Om hk
      by_cases t1:n < lo
      all_goals by_cases t2:hi < n
      all_goals
       go_wp2;go_roundg n2
       case measure=>omega
       case rel=>
        first
        |exact⟨i+1,n,n,Od,Oa,Oa,(k _ _ _ Oa _).t ((k _ _ _ Oa _).t t),aI _ (aI _ u),(k _ _ _ Oa _).t ((k _ _ _ Oa _).t G),(k _ _ _ Oa _).t ((k _ _ _ Oa _).t H),(B.setCell (by simp;omega) _).setCell (by simp;omega) _,by simp[World.setCell];omega,⟨Oa,Oa⟩,⟨Oa,Oa⟩,fun _=>Oa⟩
        |exact⟨i+1,n,hi,Od,Oa,Oa,(k _ _ _ Oa _).t t,aI _ u,(k _ _ _ Oa _).t G,(k _ _ _ Oa _).t H,B.setCell (by simp;omega) _,by simp[World.setCell];omega,⟨Oa,Oa⟩,⟨Oa,Oa⟩,fun _=>Oa⟩
        |exact⟨i+1,lo,n,Od,Oa,Oa,(k _ _ _ Oa _).t t,aI _ u,(k _ _ _ Oa _).t G,(k _ _ _ Oa _).t H,B.setCell (by simp;omega) _,by simp[World.setCell];omega,⟨Oa,Oa⟩,⟨Oa,Oa⟩,fun _=>Oa⟩
        |exact⟨i+1,lo,hi,Od,Oa,Oa,t,u,G,H,B,Oa,⟨Oa,Oa⟩,⟨Oa,Oa⟩,fun _=>Oa⟩
   ·have tl:decide ((i:Int) < 4)=false:=by simp;omega
    have N:=N Oa;go_wp2
    exact bodyPost_ret (v:=vN (lo,hi)) (by simp[results,Tryz.results232,go_sem, *]) rfl ⟨_,rfl,⟨j1,N,j4⟩,by
     refine Qv (Qv y (by simp;omega) _) (by simp;omega) _⟩
end
section
open Go.RowKit Go.Lib
theorem sV(s:ByteArray)(p k:Nat):(s.extract p s.size).get! k=s.get! (p+k):=by
 have cP:(s.extract p s.size).size=s.size - p:=Od
 by_cases h:p+k < s.size
 ·grind[jE,ByteArray.getElem_extract]
 ·have a:∀ (t:ByteArray) (i:Nat),¬i < t.size->t.get! i=default:=fun t i hi=>by
   show t.data[i]! =_;simp[*]
  grind
theorem aNF(s:ByteArray)(p:Nat):Utf8.decode (s.extract p s.size) 0=Utf8.decode s p:=by
 have cP:(s.extract p s.size).size=s.size - p:=Od
 have a:∀ k,decide (k < s.size - p)=decide (p+k < s.size):=Qg;unfold Utf8.decode;simp only[sV,cP,a]
theorem aJG{s:ByteArray}{p:Nat}(h:p < s.size):s.data.toList.drop p=s.get! p::s.data.toList.drop (p+1):=by
 rw[jE h];exact List.drop_eq_getElem_cons (by exact h)
theorem aZT(s:ByteArray)(p:Nat):Lib.hasPrefix (s.data.toList.drop p) [239,191,189]=true↔(p+2 < s.size/\(s.get! p).toNat=239/\(s.get! (p+1)).toNat=191/\(s.get! (p+2)).toNat=189):=by
 have b:∀ (a:UInt8) (n:Nat) (c:n < 256),(UInt8.ofNat n==a)=true↔a.toNat=n:=fun a n c=>by
  rw[beq_iff_eq];constructor
  ·intro h;rw[<-h];simp[Nat.mod_eq_of_lt c]
  ·intro h;rw[<-h];simp
 have d:=b (s.get! p) 239 Ob;have e:=b (s.get! (p+1)) 191 Ob;have f:=b (s.get! (p+2)) 189 Ob;unfold Lib.hasPrefix;have g:∀ q,s.size<=q->s.data.toList.drop q=[]:=Od
 grind[aJG]
theorem aLT(s:ByteArray)(p:Nat):lJ s p (Utf8.decode s p).1=true↔((Utf8.decode s p).2=1/\128<=(Utf8.decode s p).1):=by
 have a:=aB4 (s.extract p s.size);rw[aNF]at a;simp only[sV,Nat.add_zero]at a
 have c:∀ k,vG (s.extract p s.size) k=(decide (p+k < s.size)&&decide (128<=(s.get! (p+k)).toNat)&&decide ((s.get! (p+k)).toNat<=191)):=fun k=>by
  unfold vG;rw[sV];have cP:(s.extract p s.size).size=s.size - p:=by rw[ByteArray.size_extract];omega
  rw[cP,show decide (k < s.size - p)=decide (p+k < s.size)by rw[decide_eq_decide];omega]
 unfold lJ;simp only[Bool.and_eq_true,decide_eq_true_eq,Bool.not_eq_true'];rw[<-Bool.not_eq_true,aZT];have b1:(s.get! (p+1)).toNat < 256:=(s.get! (p+1)).toNat_lt;have b:(s.get! (p+2)).toNat < 256:=(s.get! (p+2)).toNat_lt;generalize (s.get! p).toNat=a0 at*
 by_cases c0:a0 < 128
 ·grind
 rw[if_neg c0]at a
 by_cases c1:(a0 / 32==6&&vG (s.extract p s.size) 1)=true
 ·grind
 rw[if_neg c1]at a
 by_cases c2:(a0 / 16==14&&vG (s.extract p s.size) 1&&vG (s.extract p s.size) 2)=true
 ·grind[xI]
 grind
def Dn(s:ByteArray)(c:dI)(p:Nat):dI:=c.run (s.size+1 - p) p
theorem aRM{s:ByteArray}:∀ (n:Nat) (c:dI) (p:Nat),c.f=s->s.size - p < n->∀ m,s.size - p < m->c.run n p=c.run m p:=by
 intro n
 induction n with
 |zero=>omega
 |succ n ih=>
  intro c p d b m a;obtain⟨m,rfl⟩:∃ k,m=k+1:=⟨m - 1,Oa⟩
  grind[dI.run,Utf8.decode,dI.step,Lib.decode_width_pos,dI.begins_keeps,dI.z0]
theorem aTH{s:ByteArray}{c:dI}{p:Nat}(d:c.f=s)(b: ¬p < s.size)(a:p<=s.size):Dn s c p=c.d0 p:=by
 unfold Dn;rw[show s.size+1 - p=0+1 by omega]
 grind[dI.run]
theorem aO2{s:ByteArray}{c:dI}{p:Nat}{r:Int}(a:c.f=s):(c.step p r).f=s:=by
 grind[dI.step,dI.begins_keeps,dI.z0]
theorem aND{s:ByteArray}{c:dI}{p:Nat}(b:c.f=s)(a:p < s.size):Dn s c p=if(c.step p (Utf8.decode s p).1).a≠0 then c.step p (Utf8.decode s p).1 else Dn s (c.step p (Utf8.decode s p).1) (p+(Utf8.decode s p).2):=by
 unfold Dn;rw[show s.size+1 - p=(s.size - p)+1 by omega];rw[dI.run,b,if_pos a]
 split
 ·rfl
 ·have e:=Lib.decode_width_pos s p a;have d:=lW s p a;exact aRM _ _ _ (aO2 b) Oa _ Oa
theorem aJD{s:ByteArray}{c:dI}{p:Nat}(f:c.f=s)(d:p < s.size)(b:c.a=0)(a:c.goes p (Utf8.decode s p).1=true):Dn s c p=Dn s c (p+(Utf8.decode s p).2):=by
 have e:c.step p (Utf8.decode s p).1=c:=if_pos a
 grind[aND]
theorem aH2{s:ByteArray}{c:dI}{p:Nat}(e:c.f=s)(b:p < s.size)(a:c.goes p (Utf8.decode s p).1=false):Dn s c p=if((c.d0 p).m0 p (Utf8.decode s p).1).a≠0 then(c.d0 p).m0 p (Utf8.decode s p).1 else Dn s ((c.d0 p).m0 p (Utf8.decode s p).1) (p+(Utf8.decode s p).2):=by
 have d:c.step p (Utf8.decode s p).1=(c.d0 p).m0 p (Utf8.decode s p).1:=if_neg (by rw[a];decide);rw[aND e b,d]
theorem aLV{c:dI}{p r:Int}(h:c.a≠0):(c.m0 p r).a=c.a/\(c.m0 p r).e=c.e:=by
 grind[dI.m0,dI.fail]
theorem aLM{s:ByteArray}{c:dI}{p:Nat}(e:c.f=s)(d:p<=s.size)(b:p < s.size->c.goes p (Utf8.decode s p).1=false)(a:(c.d0 p).a≠0):(Dn s c p).a=(c.d0 p).a/\(Dn s c p).e=(c.d0 p).e:=by
 grind[Utf8.decode,aH2,aLV,aTH]
theorem aYQ(s:ByteArray):eI s=Dn s ⟨s,[],0,0,0,0⟩ 0:=rfl
end
end Go.Proofs.YtikffmloeifkpaaGreatDoor
