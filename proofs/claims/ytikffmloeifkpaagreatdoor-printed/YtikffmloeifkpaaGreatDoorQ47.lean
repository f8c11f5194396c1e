/- Contracts. -/
import Derived.Test.YtikffmloeifkpaaGreatDoorQ32
import Derived.Deep.CutRange
namespace Go.Proofs.YtikffmloeifkpaaGreatDoor
open Go.RowKit Go.Lib Go.Deep
def sgC:Array Value:=#[.string ⟨#[40]⟩,.string ⟨#[41]⟩,.string ⟨#[123]⟩,.string ⟨#[125]⟩,.string ⟨#[91]⟩,.string ⟨#[93]⟩,.string ⟨#[44]⟩,.string ⟨#[59]⟩,.string ⟨#[61]⟩,.string ⟨#[61,61]⟩,.string ⟨#[33,61]⟩,.string ⟨#[60]⟩,.string ⟨#[60,61]⟩,.string ⟨#[62]⟩,.string ⟨#[62,61]⟩,.string ⟨#[43]⟩,.string ⟨#[45]⟩,.string ⟨#[42]⟩,.string ⟨#[47]⟩,.string ⟨#[37]⟩,.string ⟨#[38,38]⟩,.string ⟨#[124,124]⟩]
theorem bJR:∀ i:Nat,i < 22->sgC[i]?=some (.string (sp (12+i)))
 |0,_=>rfl|1,_=>rfl|2,_=>rfl|3,_=>rfl|4,_=>rfl|5,_=>rfl|6,_=>rfl|7,_=>rfl|8,_=>rfl|9,_=>rfl|10,_=>rfl
 |11,_=>rfl|12,_=>rfl|13,_=>rfl|14,_=>rfl|15,_=>rfl|16,_=>rfl|17,_=>rfl|18,_=>rfl|19,_=>rfl|20,_=>rfl|21,_=>rfl
 |n+22,h=>Oa
set_option maxHeartbeats 8000000 in
set_option maxRecDepth 100000 in
theorem bFV(s:ByteArray)(w:World)(hs:bHC s.data.toList)(hp:0 < s.size)(hl:s[s.size - 1].toNat=10)(hz:s.size<=50000000):Calls Tryz.prog 30 #[.string s] w fun e w'=>e= .returned (.bool true)/\Below w.heap.size w w':=by
 have hzI:(s.size:Int)<=50000000:=Oa
 have hlen:s.data.toList.length=s.size:=rfl;obtain⟨oS,h9⟩:∃ o:Obj,o= .cells sgC 9:=⟨_,rfl⟩
 have kS:∀ i:Nat,i < 22->(w.alloc oS).cell? ⟨w.heap.size,i,none⟩=some (.string (sp (12+i))):=fun i hi=>by
  rw[cell_of_row _ _ _ _ _ _ (show(w.alloc oS).heap[w.heap.size]?=some (.cells sgC 9 (0,0))by rw[h9];exact Qb w _)];exact bJR i hi
 have HB:Hid (Below w.heap.size w (w.alloc oS)):=(Below.refl _ _).alloc Ol _;have HK:Hid _:=kS;have HL:Hid (s[s.size - 1].toNat=10):=hl;have HP:Hid (0 < s.size):=hp;have T0:Hid (bID [] s.data.toList):=bFY hs;unfold sgC at h9;clear hs hl kS;go_enter Tryz.func30,Tryz.ntmps30
 go_upto_region 2 with fail
 rw[<-h9];clear h9;generalize w.alloc oS=W1 at*;go_wp2_with fail
 go_loopg [4,5,6,7,8,9,10] s.size (fun m x4 x5 x6 x7 x8 x9 x10 wr=>∃ a i:Nat,x4= .int .i64 a/\x5= .int .i64 i/\a<=i/\i<=s.size/\s.size<=i+m/\bID ((s.data.toList.take i).drop a) (s.data.toList.drop i)/\W1=wr)
 case atStart=>exact⟨0,0,rfl,rfl,Qc _,Qe _,Oa,T0.out,rfl⟩
 case round=>
  clear T0;obtain⟨a,i,rfl,rfl,k0,hi,hm,hT,rfl⟩:=hrel
  by_cases k7:i < s.size
  ·have k3:(i:Int) < (s.size:Int):=Oa
   have hi1:0<=(i:Int)/\(i:Int) < (s.size:Int):=Oa
   have h4:s.data.toList.drop i=s[i]::s.data.toList.drop (i+1):=List.drop_eq_getElem_cons Oa
   have h0:(s.data.toList.take (i+1)).drop a=(s.data.toList.take i).drop a++[s[i]]:=by
    rw[List.take_add_one,List.getElem?_eq_getElem Oa,List.drop_append_of_le_length (by rw[List.length_take];omega)];rfl
   have HI:Hid (a<=i/\i < s.size/\s.size<=i+gk):=⟨k0,k7,hm⟩;obtain⟨gg,rfl⟩:∃ q,gk=q+1:=⟨gk - 1,Oa⟩;rw[h4]at hT;rcases bI9 hT with⟨y6,y7,k4⟩|⟨hg,k2,k6⟩
   ·have t32:((s[i].toNat:Int)!=32)=true:=by rw[bne_iff_ne];omega
    have t10:((s[i].toNat:Int)!=10)=true:=by rw[bne_iff_ne];omega
    rw[<-h0]at k4;have k5:Hid _:=k4;clear hT k4 y6 y7 h4 h0 k0 hi hm;go_wp2;go_roundg gg
    case rel=>exact⟨a,i+1,rfl,Od,Oi HI.out,Oi HI.out,Oi HI.out,k5.out,rfl⟩
    case measure=>omega
   ·obtain⟨X,hX⟩:∃ X,X=s.extract a i:=⟨_,rfl⟩
    have k8:X.data.toList=(s.data.toList.take i).drop a:=by
     rw[hX,Lib.extract_data,List.drop_take]
    rw[<-k8]at k2;have y0:Hid (bIE X.data.toList):=k2
    have k5:Hid (bID ((s.data.toList.take (i+1)).drop (i+1)) (s.data.toList.drop (i+1))):=by
     rw[Hid,List.drop_eq_nil_of_le (by rw[List.length_take];omega)];exact bFY k6
    have y5:X.size<=s.size:=by
     rw[hX,ByteArray.size_extract];omega
    have y3:(a:Int)<=(i:Int):=Oa
    have y4:(0:Int)<=(a:Int):=Oa
    have hiS:(i:Int)<=(s.size:Int):=Oa
    have HG:Hid (s[i].toNat=32\/s[i].toNat=10):=hg;clear hT k2 k6 h4 h0 k0 hi hm k8 hg;go_upto_region 6 with fail
    go_cut [27]from 12 to 94 (fun v w'=>v= .bool false/\W1=w')
    case first=>as_aux_lemma=>
     rcases HG.out with h|h
     ·have t32:((s[i].toNat:Int)!=32)=false:=by simp[h]
      clear h;go_wp2;go_meet
      case rel=>exact⟨rfl,rfl⟩
     ·have t32:((s[i].toNat:Int)!=32)=true:=by simp[h]
      have t10:((s[i].toNat:Int)!=10)=false:=by simp[h]
      clear h;go_wp2;go_meet
      case rel=>exact⟨rfl,rfl⟩
    case rest=>
     obtain⟨rfl,rfl⟩:=hcut;go_upto_region 9 with fail
     rw[<-hX];clear hX;obtain⟨Pl,k1⟩:∃ Pl:Prop,Pl=(X.data.toList≠[]/\∀ b∈X.data.toList,plB b):=⟨_,rfl⟩
     have z0:Hid (Pl\/∃ i:Nat,i < 22/\X.data.toList=spL (12+i)):=by
      rw[Hid,k1];exact y0.out
     have z1:Hid (∀ (k:Nat) (hk:k < X.size),Pl->plB X[k]):=fun k hk h=>by
      rw[k1]at h;exact h.2 _ (List.getElem_mem (l:=X.data.toList) hk)
     have y9:Hid (Pl->(!X.toList.isEmpty)=true):=fun h=>by
      rw[k1]at h;rw[Lib.toList_data];cases hx:X.data.toList with
      |nil=>exact absurd hx h.1
      |cons=>rfl
     have hXz:X.size<=50000000:=Oa
     clear k1 y0 y5 y3 y4 HG;go_wp2_with fail
     generalize (!X.toList.isEmpty)=q0 at*;go_loopg [7,8,9] X.size (fun m p v b wr=>∃ (q:Bool) (k:Nat),p= .bool q/\v= .int .i64 k/\k<=X.size/\X.size<=k+m/\(Pl->q=true)/\W1=wr)
     case atStart=>exact⟨q0,0,rfl,rfl,Qe _,Oa,y9.out,rfl⟩
     case round=>
      obtain⟨q,k,rfl,rfl,hk,h6,hq,rfl⟩:=hrel
      by_cases h8:k < X.size
      ·have h7:(k:Int) < (X.size:Int):=Oa
       have y2:0<=(k:Int)/\(k:Int) < (X.size:Int):=Oa
       have y1:Hid (Pl->plB X[k]):=z1.out k h8;have h5:Hid (k < X.size/\X.size<=k+gk):=⟨h8,h6⟩;have HQ:Hid (Pl->q=true):=hq;obtain⟨g2,rfl⟩:∃ q,gk=q+1:=⟨gk - 1,Oa⟩;clear hk h6 hq;cases q
       ·clear y1;go_wp2;go_roundg g2
        case rel=>exact⟨false,k+1,rfl,Od,Oi h5.out,Oi h5.out,HQ.out,rfl⟩
        case measure=>omega
       ·go_wp2
        all_goals
         go_roundg g2
         case rel=>exact⟨_,k+1,rfl,Od,Oi h5.out,Oi h5.out,fun h=>by
          first
           |rfl
           |(have h1:=y1.out h;unfold plB at h1;simp;omega),rfl⟩
         case measure=>omega
      ·have h7: ¬(k:Int) < (X.size:Int):=Oa
       have k9:Hid (q=true\/∃ j:Nat,0<=j/\j < 22/\X.data.toList=spL (12+j)):=by
        rcases z0.out with h|⟨j,h1,h2⟩
        ·exact .inl (hq h)
        ·exact .inr ⟨j,Qe _,h1,h2⟩
       clear hq hk h6;go_wp2_with fail
       go_loopg [7,10] 22 (fun m p v wr=>∃ (q:Bool) (k:Nat),p= .bool q/\v= .int .i64 k/\k<=22/\22<=k+m/\(q=true\/∃ j:Nat,k<=j/\j < 22/\X.data.toList=spL (12+j))/\W1=wr)
       case atStart=>exact⟨q,0,rfl,rfl,Qe _,Oa,k9.out,rfl⟩
       case round=>
        clear k9;obtain⟨q,k,rfl,rfl,hk,h6,hq,rfl⟩:=hrel
        by_cases h8:k < 22
        ·have h7:(k:Int) < 22:=Oa
         have y2:0<=(k:Int)/\(k:Int) < 22:=Oa
         have cS:=HK.out k h8;have h5:Hid (k < 22/\22<=k+gk):=⟨h8,h6⟩;have HQ:Hid _:=hq;obtain⟨g2,rfl⟩:∃ q,gk=q+1:=⟨gk - 1,Oa⟩;clear hk h6 hq;cases q
         ·by_cases he:X.data.toList=spL (12+k)
          ·have te:(X.toList==(sp (12+k)).toList)=true:=by rw[Lib.toList_data,aPU,he,beq_iff_eq]
           clear he;go_wp2;go_roundg g2
           case rel=>exact⟨true,k+1,rfl,Od,Oi h5.out,Oi h5.out,.inl rfl,rfl⟩
           case measure=>omega
          ·have te:(X.toList==(sp (12+k)).toList)=false:=by rw[Lib.toList_data,aPU,Bool.eq_false_iff,Ne,beq_iff_eq];exact he
           have y8:Hid (false=true\/∃ j:Nat,k+1<=j/\j < 22/\X.data.toList=spL (12+j)):=by
            rcases HQ.out with h|⟨j,h1,h2,h3⟩
            ·cases h
            ·have:j≠k:=fun h=>he (by rw[<-h];exact h3);exact .inr ⟨j,Oa,h2,h3⟩
           clear he;go_wp2;go_roundg g2
           case rel=>exact⟨false,k+1,rfl,Od,Oi h5.out,Oi h5.out,y8.out,rfl⟩
           case measure=>omega
         ·go_wp2;go_roundg g2
          case rel=>exact⟨true,k+1,rfl,Od,Oi h5.out,Oi h5.out,.inl rfl,rfl⟩
          case measure=>omega
        ·have h7: ¬(k:Int) < 22:=Oa
         obtain rfl:q=true:=by
          rcases hq with h|⟨j,h1,h2,_⟩
          ·exact h
          ·omega
         clear hq hk h6;go_wp2;go_roundg gg
         case rel=>exact⟨i+1,i+1,Od,Od,Qc _,Oi HI.out,Oi HI.out,k5.out,rfl⟩
         case measure=>omega
  ·have k3: ¬(i:Int) < (s.size:Int):=Oa
   have hp:=HP.out;have hps:(s.size:Int) - 1=((s.size - 1:Nat):Int):=Oa
   have hpI:decide ((s.size:Int) > 0)=true:=decide_eq_true Oa;have hpx:0<=((s.size - 1:Nat):Int)/\((s.size - 1:Nat):Int) < (s.size:Int):=Oa
   have hpn:s.size - 1 < s.size:=Oa
   have t10:((s[s.size - 1].toNat:Int)==10)=true:=by rw[beq_iff_eq];have:=HL.out;omega
   clear hT k0 hi hm k7;go_wp2;go_ret;exact⟨rfl,HB.out⟩
end Go.Proofs.YtikffmloeifkpaaGreatDoor
