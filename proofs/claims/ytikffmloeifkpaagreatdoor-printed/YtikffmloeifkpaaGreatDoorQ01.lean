/- Contracts. -/
import Derived.Test.YtikffmloeifkpaaGreatDoorQ00
import Derived.Test.YtikffmloeifkpaaGreatDoorChecked
import Derived.WalkKit
import Derived.WalkSpells
import Derived.WalkLawsBesides
import Derived.Lib.Strings
import Derived.Lib.Slices
set_option maxHeartbeats 400000
namespace Go.Proofs.YtikffmloeifkpaaGreatDoor
open Go.RowKit
theorem bX{a b:Bool}(h:a=b):Ending.returned (.bool a)= .returned (.bool b):=by rw[h]
theorem yL{a b:Bool}(h:a=true↔b=true):Ending.returned (.bool a)= .returned (.bool b):=by rw[Bool.eq_iff_iff.2 h]
def kZ(r:Int):Bool:=decide (48<=r/\r<=57)
def aA0(r:Int):Bool:=decide (r=9\/r=10\/r=13\/r=32)
def oK(r:Int):Bool:=decide ((97<=r/\r<=122)\/(65<=r/\r<=90)\/r=95\/(192<=r/\r<=591/\r≠215/\r≠247))
theorem kP(r:Int)(w:World):
 Calls Tryz.prog 116 #[.int .i32 r] w fun e w'=>e= .returned (.bool (kZ r))/\w=w':=by
 go_enter Tryz.func116,Tryz.ntmps116
 go_wp2
 all_goals (go_ret;exact⟨bX (by simp[kZ];try omega),rfl⟩)
theorem kQ(r:Int)(w:World):
 Calls Tryz.prog 121 #[.int .i32 r] w fun e w'=>e= .returned (.bool (aA0 r))/\w=w':=by
 go_enter Tryz.func121,Tryz.ntmps121
 go_wp2
 all_goals (go_ret;exact⟨yL (by simp[aA0];try omega),rfl⟩)
theorem jN(r:Int)(w:World):
 Calls Tryz.prog 115 #[.int .i32 r] w fun e w'=>e= .returned (.bool (oK r))/\w=w':=by
 go_enter Tryz.func115,Tryz.ntmps115
 go_wp2
 all_goals (go_ret;exact⟨yL (by simp only[oK,decide_eq_true_eq,Bool.and_eq_true,bne_iff_ne,beq_iff_eq,beq_eq_false_iff_ne,ne_eq,Bool.false_eq_true,true_iff,false_iff]at*;omega),rfl⟩)
theorem aMQ{a c:Int}{b d:Bool}(h:a=c)(h2:b=d):Ending.returned (.tuple #[.int .i64 a,.bool b])= .returned (.tuple #[.int .i64 c,.bool d]):=by rw[h,h2]
def spS:List (List UInt8):=[[],[],[],[97,114,114],[102,110],[119,104,101,114,101],[108,101,116],[105,102],[101,108,115,101],[119,104,105,108,101],[114,101,116,117,114,110],[111,117,116],[40],[41],[123],[125],[91],[93],[44],[59],[61],[61,61],[33,61],[60],[60,61],[62],[62,61],[43],[45],[42],[47],[37],[38,38],[124,124]]
def spL(k:Nat):List UInt8:=spS.getD k []
def sp(k:Nat):ByteArray:=⟨(spL k).toArray⟩
theorem aPU(k:Nat):(sp k).toList=spL k:=by unfold sp;rw[ByteArray.toList_mk]
theorem aPV(k:Nat):(sp k).data.toList=spL k:=rfl
def Tab(w:World):Prop:=∀ i:Nat,i < 34->w.cell? ⟨0,i,none⟩=some (.string (sp i))
def vT(l:List UInt8)(k:Nat):Nat->Nat
 |0=>0
 |n+1=>if spL k=l then k else vT l (k+1) n
def spK(l:List UInt8):Nat:=vT l 3 31
def spB(l:List UInt8):Bool:=decide (spK l≠0)
theorem aAR{l:List UInt8}{k n m:Nat}(h:k+n=34)(hm:m=vT l k n)(hk:k < 34):m=if spL k=l then k else vT l (k+1) (33 - k):=by
 obtain⟨n',rfl⟩:∃ n',n=n'+1:=⟨n - 1,Oa⟩;have:n'=33 - k:=Oa
 subst this;exact hm
theorem aRM{k:Nat}{s:ByteArray}{b:Bool}(h:((sp k).toList==s.toList)=b):(spL k=s.data.toList)↔b=true:=by
 rw[aPU,ByteArray.toList_eq]at h;rw[<-h,beq_iff_eq]
theorem oE(s:ByteArray)(w:World)(ht:Tab w):
 Calls Tryz.prog 181 #[.string s] w fun e w'=>e= .returned (.tuple #[.int .i64 (spK s.data.toList),.bool (spB s.data.toList)])/\w=w':=by
 go_enter Tryz.func181,Tryz.ntmps181
 go_wp2;go_loop [4] (fun i=>∃ k:Nat,3<=k/\k<=34/\i= .int .i64 k/\spK s.data.toList=vT s.data.toList k (34 - k)) (fun i=>34 - (intOf i).toNat)
 case atStart=>exact⟨3,Oa,Oa,rfl,rfl⟩
 case round=>
  obtain⟨k,hk3,hk,rfl,HK⟩:=hrel;have HH:Hid (spK s.data.toList=vT s.data.toList k (34 - k)):=HK;clear HK
  by_cases h2:k < 34
  ·have hc:=ht k h2;go_wp2
   ·have h:=aRM (by assumption);have h1:=aAR Oa HH.out h2;rw[if_pos (h.2 rfl)]at h1;go_ret2
    exact⟨aMQ (by rw[h1]) (by unfold spB;exact(decide_eq_true Oa).symm),rfl⟩
   ·have h:=aRM (by assumption);have h1:=aAR Oa HH.out h2;rw[if_neg (fun e=>by simpa using h.1 e)]at h1;go_round
    case rel=>exact⟨k+1,Oa,Oa,by go_num,by rw[h1,show 33 - k=34 - (k+1)from by omega]⟩
    case measure=>simp[intOf];omega
  ·have:k=34:=Oa
   subst this;have h0:Hid (spK s.data.toList=0):=HH.out;clear HH;go_wp2;go_ret2
   exact⟨aMQ (by rw[h0.out];rfl) (by unfold spB;exact(decide_eq_false (by rw[h0.out];exact fun e=>e rfl)).symm),rfl⟩
theorem tL(s p:ByteArray)(w:World):
 Calls Tryz.prog 239 #[.string s,.string p] w fun e w'=>e= .returned (.bool (Lib.hasPrefix s.data.toList p.data.toList))/\w=w':=by
 rw[<-Lib.hasPrefix_of_take,<-Lib.size_eq,<-Lib.size_eq];go_enter Tryz.func239,Tryz.ntmps239
 go_wp2
 ·rename_i h;go_ret;refine⟨?_,rfl⟩;show Ending.returned (Value.bool ((s.extract 0 p.size).toList==p.toList))=_;rw[Lib.extract_toList,Lib.toList_data];simp[h]
 ·rename_i h;go_ret;refine⟨?_,rfl⟩;show Ending.returned (Value.bool false)=_;simp[h]
theorem bCT(s p:ByteArray)(w:World):
 Calls Tryz.prog 179 #[.string s,.string p] w fun e w'=>e= .returned (.bool (Lib.hasPrefix s.data.toList p.data.toList))/\w=w':=by
 go_enter Tryz.func179,Tryz.ntmps179
 go_wp2_with (go_at_call 239;refine(tL _ _ _).mono ?_;rintro e w' ⟨rfl,rfl⟩)
 go_ret;exact⟨rfl,rfl⟩
def tV(l:List UInt8)(k:Nat):Nat->Bool
 |0=>false
 |n+1=>Lib.hasPrefix (spL k) l||tV l (k+1) n
def bsB(l:List UInt8):Bool:=tV l 12 22
theorem aKS{l:List UInt8}{k n:Nat}{m:Bool}(h:k+n=34)(hm:m=tV l k n)(hk:k < 34):m=(Lib.hasPrefix (spL k) l||tV l (k+1) (34 - (k+1))):=by
 obtain⟨n',rfl⟩:∃ n',n=n'+1:=⟨n - 1,Oa⟩;have:n'=34 - (k+1):=Oa
 subst this;exact hm
theorem nV(s:ByteArray)(w:World)(ht:Tab w):
 Calls Tryz.prog 117 #[.string s] w fun e w'=>e= .returned (.bool (bsB s.data.toList))/\w=w':=by
 go_enter Tryz.func117,Tryz.ntmps117
 go_wp2;go_loop [3] (fun i=>∃ k:Nat,12<=k/\k<=34/\i= .int .i64 k/\bsB s.data.toList=tV s.data.toList k (34 - k)) (fun i=>34 - (intOf i).toNat)
 case atStart=>exact⟨12,Oa,Oa,rfl,rfl⟩
 case round=>
  obtain⟨k,hk3,hk,rfl,HK⟩:=hrel;have HH:Hid (bsB s.data.toList=tV s.data.toList k (34 - k)):=HK;clear HK
  by_cases h2:k < 34
  ·have hc:=ht k h2;have h1:=Hid.out (aKS Oa HH.out h2);rw[<-aPV]at h1;cases hp:Lib.hasPrefix (sp k).data.toList s.data.toList
   ·rw[hp,Bool.false_or]at h1;have H2:Hid (bsB s.data.toList=tV s.data.toList (k+1) (34 - (k+1))):=h1;clear h1;go_wp2_with (go_at_call 179;refine(bCT _ _ _).mono ?_;rintro e w' ⟨rfl,rfl⟩)
    go_round
    case rel=>exact⟨k+1,Oa,Oa,by go_num,H2.out⟩
    case measure=>simp[intOf];omega
   ·rw[hp,Bool.true_or]at h1;have H2:Hid (bsB s.data.toList=true):=h1;clear h1;go_wp2_with (go_at_call 179;refine(bCT _ _ _).mono ?_;rintro e w' ⟨rfl,rfl⟩)
    go_ret;exact⟨bX H2.out.symm,rfl⟩
  ·have:k=34:=Oa
   subst this;have h0:Hid (bsB s.data.toList=false):=HH.out;clear HH;go_wp2;go_ret;exact⟨bX h0.out.symm,rfl⟩
end Go.Proofs.YtikffmloeifkpaaGreatDoor
