/- Contracts. -/
import Derived.Test.YtikffmloeifkpaaGreatDoorR19
import Derived.Lib.ItoaNum
namespace Go.Proofs.YtikffmloeifkpaaGreatDoor
open Go.RowKit Go.Lib
theorem bGP{s:ByteArray}{i:Nat}(h:i < s.size):s.get! i=s[i]:=by
 show s.data[i]! =s.data[i];simp[*]
theorem bG4(s:ByteArray)(p:Nat)(h:p+2<=s.size)(a:(s[p]'Oa).toNat / 32=6)(b:(s[p+1]'Oa).toNat / 64=2)(c:128<=((s[p]'Oa).toNat % 32)*64+(s[p+1]'Oa).toNat % 64):
 Utf8.decode s p=(((s[p]'Oa).toNat % 32)*64+(s[p+1]'Oa).toNat % 64,2):=by
 grind[Utf8.decode,bGP]
theorem bFL{s:ByteArray}{p:Nat}(i:p < s.size)(h:(Utf8.decode s p).1<=591):((s[p]'hp).toNat < 128/\Utf8.decode s p=((s[p]'hp).toNat,1))\/(∃ f:p+2<=s.size,(s[p]'hp).toNat / 32=6/\(s[p+1]'Oa).toNat / 64=2/\128<=((s[p]'hp).toNat % 32)*64+(s[p+1]'Oa).toNat % 64/\Utf8.decode s p=(((s[p]'hp).toNat % 32)*64+(s[p+1]'Oa).toNat % 64,2)):=by
 by_cases g:(s[p]'hp).toNat < 128
 ·grind[decode_ascii]
 ·right;have e0:s.get! (p+0)=s[p]'hp:=bGP Oa;unfold Utf8.decode at h;dsimp only at h;simp only[e0]at h;rw[Oh]at h
  by_cases c1:((s[p]'hp).toNat / 32==6&&(decide (p+1 < s.size)&&(s.get! (p+1)).toNat / 64==2))=true
  ·rw[if_pos c1]at h;simp only[Bool.and_eq_true,beq_iff_eq,decide_eq_true_eq]at c1;obtain⟨d,e,b⟩:=c1;have c:s.get! (p+1)=s[p+1]'Oa:=bGP Oa;simp only[c]at b h
   have a:128<=((s[p]'hp).toNat % 32)*64+(s[p+1]'Oa).toNat % 64:=by
    by_cases a:128<=((s[p]'hp).toNat % 32)*64+(s[p+1]'Oa).toNat % 64
    ·exact a
    ·rw[Oh]at h;trivial
   grind[bG4]
  ·exfalso;rw[if_neg c1]at h
   revert h
   repeat' split
   all_goals first|(intro h;exact absurd h Ob)|skip
   all_goals (rename_i a;intro h;simp only[Bool.and_eq_true,decide_eq_true_eq]at a;omega)
open Go.Deep
def chQ(s:ByteArray):Int × Int:=if(Utf8.decode s 0).2=1/\128<=(Utf8.decode s 0).1 then(0,0)else((Utf8.decode s 0).1,(Utf8.decode s 0).2)
def ctB(s:ByteArray)(k:Nat):Bool:=decide (k < s.size)&&decide (128<=(s.get! k).toNat)&&decide ((s.get! k).toNat<=191)
def pvQ(s:ByteArray)(l:Int):Nat->Int
 |0=>l
 |1=>l
 |k+2=>64*pvQ s l (k+1)+((s.get! (k+1)).toNat:Int) - 128
theorem cB7(s:ByteArray)(k:Nat):(decide (k < s.size)&&(s.get! k).toNat / 64==2)=ctB s k:=by
 grind[ctB]
theorem bOC{s:ByteArray}{k:Nat}(h:ctB s k=true):128<=(s.get! k).toNat/\(s.get! k).toNat<=191:=by
 grind[ctB]
theorem bQF(s:ByteArray):Utf8.decode s 0=if(s.get! 0).toNat < 128 then((s.get! 0).toNat,1)
 else if((s.get! 0).toNat / 32==6&&ctB s 1)=true then(if(s.get! 0).toNat % 32*64+(s.get! 1).toNat % 64≥128 then((s.get! 0).toNat % 32*64+(s.get! 1).toNat % 64,2)else(65533,1))
 else if((s.get! 0).toNat / 16==14&&ctB s 1&&ctB s 2)=true then(if((s.get! 0).toNat % 16*4096+(s.get! 1).toNat % 64*64+(s.get! 2).toNat % 64≥2048/\Utf8.valid ((s.get! 0).toNat % 16*4096+(s.get! 1).toNat % 64*64+(s.get! 2).toNat % 64:Nat)=true)then((s.get! 0).toNat % 16*4096+(s.get! 1).toNat % 64*64+(s.get! 2).toNat % 64,3)else(65533,1))
 else if((s.get! 0).toNat / 8==30&&ctB s 1&&ctB s 2&&ctB s 3)=true then(if((s.get! 0).toNat % 8*262144+(s.get! 1).toNat % 64*4096+(s.get! 2).toNat % 64*64+(s.get! 3).toNat % 64≥65536/\Utf8.valid ((s.get! 0).toNat % 8*262144+(s.get! 1).toNat % 64*4096+(s.get! 2).toNat % 64*64+(s.get! 3).toNat % 64:Nat)=true)then((s.get! 0).toNat % 8*262144+(s.get! 1).toNat % 64*4096+(s.get! 2).toNat % 64*64+(s.get! 3).toNat % 64,4)else(65533,1))
 else(65533,1):=by
 unfold Utf8.decode;simp only[Nat.zero_add,cB7,Bool.and_eq_true,decide_eq_true_eq];rfl
theorem cBC{s:ByteArray}(h:(s.get! 0).toNat < 128):chQ s=(((s.get! 0).toNat:Int),1):=by
 grind[chQ,bQF]
theorem bYF{s:ByteArray}{c n:Nat}(h:Utf8.decode s 0=(c,n))(a:2<=n):chQ s=((c:Int),(n:Int)):=by
 grind[chQ]
theorem bSM{s:ByteArray}(h:Utf8.decode s 0=(65533,1)):chQ s=(0,0):=by
 grind[chQ]
theorem bPB(c:Nat):Utf8.valid (c:Int)=true↔(c < 55296\/(57344<=c/\c<=1114111)):=by
 grind[Utf8.valid]
theorem cBB{s:ByteArray}(h:194<=(s.get! 0).toNat/\(s.get! 0).toNat < 224):chQ s=if ctB s 1=true then(pvQ s ((s.get! 0).toNat - 192) 2,2)else(0,0):=by
 have a:=bQF s;rw[Oh]at a
 by_cases c1:ctB s 1=true
 ·have b:=bOC c1;rw[if_pos (by simp only[c1,Bool.and_true,beq_iff_eq];omega),if_pos Oa]at a;rw[if_pos c1,bYF a Oa];refine Prod.ext ?_ rfl;show(((s.get! 0).toNat % 32*64+(s.get! 1).toNat % 64:Nat):Int)=64*(((s.get! 0).toNat:Int) - 192)+((s.get! 1).toNat:Int) - 128;omega
 grind[bSM]
theorem cBA{s:ByteArray}(h:224<=(s.get! 0).toNat/\(s.get! 0).toNat < 240):chQ s=if ctB s 1=true/\ctB s 2=true/\2048<=pvQ s ((s.get! 0).toNat - 224) 3/\¬(55296<=pvQ s ((s.get! 0).toNat - 224) 3/\pvQ s ((s.get! 0).toNat - 224) 3 < 57344)then(pvQ s ((s.get! 0).toNat - 224) 3,3)else(0,0):=by
 have a:=bQF s;rw[Oh,if_neg (by simp only[Bool.and_eq_true,beq_iff_eq];omega)]at a
 by_cases c1:ctB s 1=true/\ctB s 2=true
 ·have f:=bOC c1.1;have g:=bOC c1.2;rw[if_pos (by simp only[c1.1,c1.2,Bool.and_true,beq_iff_eq];omega)]at a
  have e:(((s.get! 0).toNat % 16*4096+(s.get! 1).toNat % 64*64+(s.get! 2).toNat % 64:Nat):Int)=pvQ s ((s.get! 0).toNat - 224) 3:=by
   show _=64*(64*(((s.get! 0).toNat:Int) - 224)+((s.get! 1).toNat:Int) - 128)+((s.get! 2).toNat:Int) - 128;omega
  have d:(s.get! 0).toNat % 16*4096+(s.get! 1).toNat % 64*64+(s.get! 2).toNat % 64 < 65536:=Oa
  generalize (s.get! 0).toNat % 16*4096+(s.get! 1).toNat % 64*64+(s.get! 2).toNat % 64=c at*;rw[<-e];simp only[bPB]at a
  by_cases b:c≥2048/\(c < 55296\/(57344<=c/\c<=1114111))
  ·rw[if_pos b]at a;rw[bYF a Oa,if_pos ⟨c1.1,c1.2,Oa,Oa⟩];rfl
  grind[bSM]
 grind[bSM]
theorem cB9{s:ByteArray}(h:240<=(s.get! 0).toNat/\(s.get! 0).toNat < 245):chQ s=if ctB s 1=true/\ctB s 2=true/\ctB s 3=true/\65536<=pvQ s ((s.get! 0).toNat - 240) 4/\pvQ s ((s.get! 0).toNat - 240) 4<=1114111 then(pvQ s ((s.get! 0).toNat - 240) 4,4)else(0,0):=by
 have a:=bQF s;rw[Oh,if_neg (by simp only[Bool.and_eq_true,beq_iff_eq];omega),if_neg (by simp only[Bool.and_eq_true,beq_iff_eq];omega)]at a
 by_cases c1:ctB s 1=true/\ctB s 2=true/\ctB s 3=true
 ·have d:=bOC c1.1;have f:=bOC c1.2.1;have g:=bOC c1.2.2;rw[if_pos (by simp only[c1.1,c1.2.1,c1.2.2,Bool.and_true,beq_iff_eq];omega)]at a
  have e:(((s.get! 0).toNat % 8*262144+(s.get! 1).toNat % 64*4096+(s.get! 2).toNat % 64*64+(s.get! 3).toNat % 64:Nat):Int)=pvQ s ((s.get! 0).toNat - 240) 4:=by
   show _=64*(64*(64*(((s.get! 0).toNat:Int) - 240)+((s.get! 1).toNat:Int) - 128)+((s.get! 2).toNat:Int) - 128)+((s.get! 3).toNat:Int) - 128;omega
  generalize (s.get! 0).toNat % 8*262144+(s.get! 1).toNat % 64*4096+(s.get! 2).toNat % 64*64+(s.get! 3).toNat % 64=c at*;rw[<-e];simp only[bPB]at a
  by_cases b:c≥65536/\(c < 55296\/(57344<=c/\c<=1114111))
  ·rw[if_pos b]at a;rw[bYF a Oa,if_pos ⟨c1.1,c1.2.1,c1.2.2,Oa,Oa⟩];rfl
  grind[bSM]
 grind[bSM]
theorem cBD{s:ByteArray}(h:128<=(s.get! 0).toNat)(a:(s.get! 0).toNat < 194\/245<=(s.get! 0).toNat):chQ s=(0,0):=by
 grind[ctB,bQF,bOC,bSM,bPB]
theorem bYD{s:ByteArray}{k:Nat}(h:k < s.size):ctB s k=true↔128<=(s[k].toNat:Int)/\(s[k].toNat:Int)<=191:=by
 grind[ctB,bGP]
theorem bYY{s:ByteArray}{l:Int}{i:Nat}(a:1<=i)(h:i < s.size):pvQ s l (i+1)=64*pvQ s l i+(s[i].toNat:Int) - 128:=by
 obtain⟨j,rfl⟩:∃ j,i=j+1:=⟨i - 1,Oa⟩
 grind[pvQ,bGP]
theorem bXS{s:ByteArray}{l:Int}(b:0<=l/\l<=31):∀ i:Nat,i<=4->(∀ k,1<=k->k < i->ctB s k=true)->0<=pvQ s l i/\pvQ s l i<=33554432:=by
 have d:0<=pvQ s l 1/\pvQ s l 1<=31:=b;intro i hi a;have c:∀ j,pvQ s l (j+2)=64*pvQ s l (j+1)+((s.get! (j+1)).toNat:Int) - 128:=fun _=>rfl;have e:=c 0;have f:=c 1;have g:=c 2
 match i,hi,a with
 |0,_,_=>exact⟨b.1,by have:=b.2;show l<=_;omega⟩
 |1,_,_=>omega
 |2,_,a=>grind[bOC]
 |3,_,a=>grind[bOC]
 |4,_,a=>grind[bOC]
def bY8(n:Nat)(v:Int):Prop:=(n=3->¬(v < 2048\/(55296<=v/\v < 57344)))/\(n=4->¬(v < 65536\/v > 1114111))
theorem cB8{s:ByteArray}{n:Nat}{l:Int}(h:(n=2/\l=(s.get! 0).toNat - 192/\194<=(s.get! 0).toNat/\(s.get! 0).toNat < 224)\/(n=3/\l=(s.get! 0).toNat - 224/\224<=(s.get! 0).toNat/\(s.get! 0).toNat < 240)\/(n=4/\l=(s.get! 0).toNat - 240/\240<=(s.get! 0).toNat/\(s.get! 0).toNat < 245)):
 ((∀ k,1<=k->k < n->ctB s k=true)->bY8 n (pvQ s l n)->chQ s=(pvQ s l n,(n:Int)))/\(∀ k,1<=k->k < n->ctB s k=false->chQ s=(0,0))/\(¬bY8 n (pvQ s l n)->chQ s=(0,0)):=by
 unfold bY8;rcases h with⟨rfl,rfl,h⟩|⟨rfl,rfl,h⟩|⟨rfl,rfl,h⟩
 ·grind[cBB]
 ·grind[cBA]
 grind[cB9]
set_option maxRecDepth 100000 in
set_option maxHeartbeats 4000000 in
theorem bYE(s:ByteArray)(w:World)(S:0 < s.size)(hz:s.size<=4000):Calls Tryz.prog 100 #[.string s] w fun e w'=>e= .returned (.tuple #[Qc (chQ s).1,Qc (chQ s).2])/\w=w':=by
 have f:=bGP S;have hb:s[0].toNat < 256:=s[0].toNat_lt;obtain⟨R,d⟩:∃ R,R=chQ s:=⟨_,rfl⟩;rw[<-d];have a3:(0:Int) < (s.size:Int):=Oa
 by_cases c1:s[0].toNat < 128
 ·have d1:decide ((s[0].toNat:Int) < 128)=true:=decide_eq_true Oa;have a:Hid (R=((s[0].toNat:Int),1)):=by rw[Hid,d,cBC (by rw[f];exact c1),f]
  clear d c1;go_enter Tryz.func100,Tryz.ntmps100
  go_wp2;go_ret2
  rw[a.o];exact⟨rfl,rfl⟩
 have d1:decide ((s[0].toNat:Int) < 128)=false:=decide_eq_false Oa
 by_cases c0:s[0].toNat < 194\/245<=s[0].toNat
 ·have a:Hid (R=(0,0)):=by rw[Hid,d,cBD (by rw[f];omega) (by rw[f];exact c0)]
  clear d c1;go_enter Tryz.func100,Tryz.ntmps100
  go_wp2
  all_goals
   go_ret2
   rw[a.o];exact⟨rfl,rfl⟩
 obtain⟨n,l,G⟩:∃ (n:Nat) (l:Int),(n=2/\l=(s.get! 0).toNat - 192/\194<=(s.get! 0).toNat/\(s.get! 0).toNat < 224)\/(n=3/\l=(s.get! 0).toNat - 224/\224<=(s.get! 0).toNat/\(s.get! 0).toNat < 240)\/(n=4/\l=(s.get! 0).toNat - 240/\240<=(s.get! 0).toNat/\(s.get! 0).toNat < 245):=by
  rw[f];rcases(show s[0].toNat < 224\/(224<=s[0].toNat/\s[0].toNat < 240)\/240<=s[0].toNat by omega)with h|h|h
  ·exact⟨2,_,.l ⟨rfl,rfl,Oa,h⟩⟩
  ·exact⟨3,_,.r (.l ⟨rfl,rfl,h.1,h.2⟩)⟩
  ·exact⟨4,_,.r (.r ⟨rfl,rfl,h,Oa⟩)⟩
 obtain⟨A,r,B⟩:=cB8 G;rw[<-d]at A r B;have hl:0<=l/\l<=31:=Oa
 have a6:2<=n/\n<=4:=Oa
 have M:s.size < n->R=(0,0):=fun h=>r s.size S h (by unfold ctB;rw[decide_eq_false Oa];rfl);have U:Hid _:=A;have W:Hid _:=r;have X:Hid _:=B;have Y:Hid _:=M;rw[f]at G;obtain⟨N,c⟩:∃ N:Nat,N=n:=⟨_,rfl⟩;clear A r B M d c1 f;rcases G with⟨rfl,v,C,D⟩|⟨rfl,v,C,D⟩|⟨rfl,v,C,D⟩
 all_goals
  first
   |(have P:decide ((s[0].toNat:Int)≥194)=true:=decide_eq_true Oa
    have Q:decide ((s[0].toNat:Int) < 224)=true:=decide_eq_true Oa)
   |(have P:decide ((s[0].toNat:Int)≥194)=true:=decide_eq_true Oa
    have Q:decide ((s[0].toNat:Int) < 224)=false:=decide_eq_false Oa;have e3:decide ((s[0].toNat:Int)≥224)=true:=decide_eq_true Oa;have e4:decide ((s[0].toNat:Int) < 240)=true:=decide_eq_true Oa)
   |(have P:decide ((s[0].toNat:Int)≥194)=true:=decide_eq_true Oa
    have Q:decide ((s[0].toNat:Int) < 224)=false:=decide_eq_false Oa;have e3:decide ((s[0].toNat:Int)≥224)=true:=decide_eq_true Oa;have e4:decide ((s[0].toNat:Int) < 240)=false:=decide_eq_false Oa;have e5:decide ((s[0].toNat:Int)≥240)=true:=decide_eq_true Oa;have e6:decide ((s[0].toNat:Int) < 245)=true:=decide_eq_true Oa)
  have e7:=v.symm;clear v C D c0;go_enter Tryz.func100,Tryz.ntmps100
  go_upto_region 15 with fail
  by_cases h8:s.size < N
  ·have a:Hid (R=(0,0)):=Y.o Oa
   first
    |(have e:decide ((s.size:Int) < 2)=true:=decide_eq_true Oa)
    |(have e:decide ((s.size:Int) < 3)=true:=decide_eq_true Oa)
    |(have e:decide ((s.size:Int) < 4)=true:=decide_eq_true Oa)
   clear h8;go_wp2;go_ret2
   rw[a.o];exact⟨rfl,rfl⟩
  ·first
    |(have m:N=2:=c
     have e:decide ((s.size:Int) < 2)=false:=decide_eq_false Oa)
    |(have m:N=3:=c
     have e:decide ((s.size:Int) < 3)=false:=decide_eq_false Oa)
    |(have m:N=4:=c
     have e:decide ((s.size:Int) < 4)=false:=decide_eq_false Oa)
   clear m;go_wp2_with fail
   clear e;go_loopg [6,7,8] 4 (fun I a2 a1 b wr=>∃ k:Nat,a1= Qc k/\1<=k/\k<=N/\N<=k+I/\a2= Qc (pvQ s l k)/\(∀ j,1<=j->j < k->ctB s j=true)/\w=wr)
   case atStart=>exact⟨1,rfl,Ql _,Oa,Oa,rfl,fun j u T=>Oa,rfl⟩
   case round=>
    obtain⟨k,rfl,o,H,z,rfl,p,rfl⟩:=hrel;have a7:=bXS hl k Oa p
    by_cases y:k < N
    ·have F:k < s.size:=Oa
     have a5:0<=(k:Int)/\(k:Int) < (s.size:Int):=Oa
     have a4:s[k].toNat < 256:=s[k].toNat_lt;have E:=bYY (l:=l) o F;obtain⟨g,rfl⟩:∃ I,gk=I+1:=⟨gk - 1,Oa⟩;have L:Hid (k < N/\1<=k/\N<=k+(g+1)):=⟨y,o,z⟩
     first
      |(have q:(k:Int) < 2:=by omega)
      |(have q:(k:Int) < 3:=by omega)
      |(have q:(k:Int) < 4:=by omega)
     have w1:IntKind.i64.wrap (64*pvQ s l k)=64*pvQ s l k:=IntWalk.i64_in _ Oa;have w2:IntKind.i64.wrap (64*pvQ s l k+(s[k].toNat:Int))=64*pvQ s l k+(s[k].toNat:Int):=IntWalk.i64_in _ Oa;have w3:IntKind.i64.wrap (64*pvQ s l k+(s[k].toNat:Int) - 128)=64*pvQ s l k+(s[k].toNat:Int) - 128:=IntWalk.i64_in _ Oa;have Z:Hid (∀ j,1<=j->j < k->ctB s j=true):=p;have HN:Hid _:=E
     by_cases i:ctB s k=true
     ·have x:=(bYD F).1 i;have O:decide ((s[k].toNat:Int) < 128)=false:=decide_eq_false Oa;have b2:decide ((s[k].toNat:Int) > 191)=false:=decide_eq_false Oa;have k0:Hid (ctB s k=true):=i;clear i x p E o H z y;go_wp2;go_roundg g
      case rel=>exact⟨k+1,Od,Oa,Oi L.o,Oi L.o,by rw[HN.o],fun j u T=>by
       rcases(show j < k\/j=k by omega)with h|rfl
       ·exact Z.o j u h
       ·exact k0.o,rfl⟩
      case measure=>omega
     ·have a:Hid (R=(0,0)):=W.o k o Oa (by simpa using i);have x: ¬(128<=(s[k].toNat:Int)/\(s[k].toNat:Int)<=191):=fun h=>i ((bYD F).2 h);clear i p E o H z y
      by_cases t:(s[k].toNat:Int) < 128
      ·have O:decide ((s[k].toNat:Int) < 128)=true:=decide_eq_true t;clear x t;go_wp2;go_ret2
       rw[a.o];exact⟨rfl,rfl⟩
      ·have O:decide ((s[k].toNat:Int) < 128)=false:=decide_eq_false t;have b2:decide ((s[k].toNat:Int) > 191)=true:=decide_eq_true Oa;clear x t;go_wp2;go_ret2
       rw[a.o];exact⟨rfl,rfl⟩
    ·obtain rfl:k=N:=Oa
     have J:Hid _:=U.o (fun j u T=>p j u Oa);have K:Hid _:=X.o;rw[<-c]at J K;generalize pvQ s l k=V at*
     first
      |(have m:k=2:=c
       have q: ¬(k:Int) < 2:=by omega)
      |(have m:k=3:=c
       have q: ¬(k:Int) < 3:=by omega)
      |(have m:k=4:=c
       have q: ¬(k:Int) < 4:=by omega)
     clear p o H z y e7;go_wp2
     all_goals
      go_ret2
      first
       |(rw[J.o (by unfold bY8;omega),c];exact⟨rfl,rfl⟩)
       |(rw[K.o (by unfold bY8;omega)];exact⟨rfl,rfl⟩)
end Go.Proofs.YtikffmloeifkpaaGreatDoor
