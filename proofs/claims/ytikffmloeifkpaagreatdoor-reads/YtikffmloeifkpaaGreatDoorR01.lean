/- Contracts. -/
import Derived.Test.YtikffmloeifkpaaGreatDoorR00
import Derived.Test.YtikffmloeifkpaaGreatDoorChecked
import Derived.WalkKit
import Derived.WalkSpells
import Derived.WalkLawsBesides
import Derived.Lib.Strings
import Derived.Lib.Slices
set_option maxHeartbeats 400000
namespace Go.Proofs.YtikffmloeifkpaaGreatDoor
open Go.RowKit Tryz
theorem gG{a b:Bool}(h:a=b):Ending.returned (.bool a)= .returned (.bool b):=by rw[h]
theorem aKO{a b:Bool}(h:a=true↔b=true):Ending.returned (.bool a)= .returned (.bool b):=Qg
def eN(r:Int):Bool:=decide (48<=r/\r<=57)
def rV(r:Int):Bool:=decide (r=9\/r=10\/r=13\/r=32)
def eQ(r:Int):Bool:=decide ((97<=r/\r<=122)\/(65<=r/\r<=90)\/r=95\/(192<=r/\r<=591/\r≠215/\r≠247))
theorem nM(r:Int)(w:World):
 Calls prog 116 #[.int .i32 r] w fun e a=>e= .returned (.bool (eN r))/\w=a:=by
 go_enter func116,ntmps116
 go_wp2
 all_goals (go_ret;exact⟨gG (by simp[eN];try omega),rfl⟩)
theorem nO(r:Int)(w:World):
 Calls prog 121 #[.int .i32 r] w fun e a=>e= .returned (.bool (rV r))/\w=a:=by
 go_enter func121,ntmps121
 go_wp2
 all_goals (go_ret;exact⟨aKO (by simp[rV];try omega),rfl⟩)
theorem mG(r:Int)(w:World):
 Calls prog 115 #[.int .i32 r] w fun e a=>e= .returned (.bool (eQ r))/\w=a:=by
 go_enter func115,ntmps115
 go_wp2
 all_goals (go_ret;exact⟨aKO (by simp only[eQ,decide_eq_true_eq,Bool.and_eq_true,bne_iff_ne,beq_iff_eq,beq_eq_false_iff_ne,ne_eq,Bool.false_eq_true,true_iff,false_iff]at*;omega),rfl⟩)
theorem aRW{a c:Int}{b d:Bool}(h:a=c)(e:b=d):Ending.returned (.tuple #[Qc a,.bool b])= .returned (.tuple #[Qc c,.bool d]):=by rw[h,e]
def spS:List (List UInt8):=[[],[],[],[97,114,114],[102,110],[119,104,101,114,101],[108,101,116],[105,102],[101,108,115,101],[119,104,105,108,101],[114,101,116,117,114,110],[111,117,116],[40],[41],[123],[125],[91],[93],[44],[59],[61],[61,61],[33,61],[60],[60,61],[62],[62,61],[43],[45],[42],[47],[37],[38,38],[124,124]]
def spL(k:Nat):List UInt8:=spS.getD k []
def sp(k:Nat):ByteArray:=⟨(spL k).toArray⟩
theorem aUT(k:Nat):(sp k).toList=spL k:=by unfold sp;simp
theorem aUU(k:Nat):(sp k).data.toList=spL k:=rfl
def Tab(w:World):Prop:=∀ i:Nat,i < 34->w.cell? ⟨0,i,none⟩=some (.string (sp i))
def nW(l:List UInt8)(k:Nat):Nat->Nat
 |0=>0
 |n+1=>if spL k=l then k else nW l (k+1) n
def zU(l:List UInt8):Nat:=nW l 3 31
def xW(l:List UInt8):Bool:=decide (zU l≠0)
theorem aF5{l:List UInt8}{k n m:Nat}(h:k+n=34)(b:m=nW l k n)(c:k < 34):m=if spL k=l then k else nW l (k+1) (33 - k):=by
 obtain⟨a,rfl⟩:∃ a,n=a+1:=⟨n - 1,Oa⟩;have:a=33 - k:=Oa
 subst this;exact b
theorem aWS{k:Nat}{s:ByteArray}{b:Bool}(h:((sp k).toList==s.toList)=b):(spL k=s.data.toList)↔b=true:=by
 grind[aUT,ByteArray.toList_eq]
theorem sN(s:ByteArray)(w:World)(f:Tab w):
 Calls prog 181 #[.string s] w fun e g=>e= .returned (.tuple #[Qc (zU s.data.toList),.bool (xW s.data.toList)])/\w=g:=by
 go_enter func181,ntmps181
 go_wp2;go_loop [4] (fun i=>∃ k:Nat,3<=k/\k<=34/\i= Qc k/\zU s.data.toList=nW s.data.toList k (34 - k)) (fun i=>34 - (intOf i).toNat)
 case atStart=>exact⟨3,Oa,Oa,rfl,rfl⟩
 case round=>
  obtain⟨k,m,l,rfl,d⟩:=hrel;have b:Hid (zU s.data.toList=nW s.data.toList k (34 - k)):=d;clear d
  by_cases c:k < 34
  ·have j:=f k c;go_wp2
   ·have h:=aWS Qi;have a:=aF5 Oa b.o c;rw[if_pos (h.2 rfl)]at a;go_ret2
    exact⟨aRW (by rw[a]) (by unfold xW;exact(decide_eq_true Oa).symm),rfl⟩
   ·have h:=aWS Qi;have a:=aF5 Oa b.o c;rw[if_neg (fun e=>by simpa using h.1 e)]at a;go_round
    case rel=>exact⟨k+1,Oa,Oa,by go_num,by rw[a,show 33 - k=34 - (k+1)from by omega]⟩
    case measure=>simp[intOf];omega
  ·have:k=34:=Oa
   subst this;have h0:Hid (zU s.data.toList=0):=b.o;clear b;go_wp2;go_ret2
   exact⟨aRW (by rw[h0.o];rfl) (by unfold xW;exact(decide_eq_false (by rw[h0.o];exact fun e=>e rfl)).symm),rfl⟩
theorem zE(s p:ByteArray)(w:World):
 Calls prog 239 #[.string s,.string p] w fun e a=>e= .returned (.bool (Lib.hasPrefix s.data.toList p.data.toList))/\w=a:=by
 rw[<-Lib.hasPrefix_of_take,<-Lib.size_eq,<-Lib.size_eq];go_enter func239,ntmps239
 go_wp2
 ·rename_i h;go_ret;refine⟨?_,rfl⟩;show Ending.returned (Value.bool ((s.extract 0 p.size).toList==p.toList))=_;rw[Lib.extract_toList,Lib.toList_data];simp[h]
 ·rename_i h;go_ret;refine⟨?_,rfl⟩;show Ending.returned (Value.bool false)=_;simp[h]
theorem tK(s p:ByteArray)(w:World):
 Calls prog 179 #[.string s,.string p] w fun e a=>e= .returned (.bool (Lib.hasPrefix s.data.toList p.data.toList))/\w=a:=by
 go_enter func179,ntmps179
 go_wp2_with (go_at_call 239;refine(zE _ _ _).mono ?_;rintro e a ⟨rfl,rfl⟩)
 go_ret;exact⟨rfl,rfl⟩
def rT(l:List UInt8)(k:Nat):Nat->Bool
 |0=>false
 |n+1=>Lib.hasPrefix (spL k) l||rT l (k+1) n
def wZ(l:List UInt8):Bool:=rT l 12 22
theorem aPV{l:List UInt8}{k n:Nat}{m:Bool}(h:k+n=34)(b:m=rT l k n)(c:k < 34):m=(Lib.hasPrefix (spL k) l||rT l (k+1) (34 - (k+1))):=by
 obtain⟨a,rfl⟩:∃ a,n=a+1:=⟨n - 1,Oa⟩;have:a=34 - (k+1):=Oa
 subst this;exact b
theorem rW(s:ByteArray)(w:World)(h:Tab w):
 Calls prog 117 #[.string s] w fun e d=>e= .returned (.bool (wZ s.data.toList))/\w=d:=by
 go_enter func117,ntmps117
 go_wp2;go_loop [3] (fun i=>∃ k:Nat,12<=k/\k<=34/\i= Qc k/\wZ s.data.toList=rT s.data.toList k (34 - k)) (fun i=>34 - (intOf i).toNat)
 case atStart=>exact⟨12,Oa,Oa,rfl,rfl⟩
 case round=>
  obtain⟨k,m,l,rfl,f⟩:=hrel;have c:Hid (wZ s.data.toList=rT s.data.toList k (34 - k)):=f;clear f
  by_cases g:k < 34
  ·have j:=h k g;have a:=Hid.o (aPV Oa c.o g);rw[<-aUU]at a;cases hp:Lib.hasPrefix (sp k).data.toList s.data.toList
   ·rw[hp,Bool.false_or]at a;have b:Hid (wZ s.data.toList=rT s.data.toList (k+1) (34 - (k+1))):=a;clear a;go_wp2_with (go_at_call 179;refine(tK _ _ _).mono ?_;rintro e d ⟨rfl,rfl⟩)
    go_round
    case rel=>exact⟨k+1,Oa,Oa,by go_num,b.o⟩
    case measure=>simp[intOf];omega
   ·rw[hp,Bool.true_or]at a;have b:Hid (wZ s.data.toList=true):=a;clear a;go_wp2_with (go_at_call 179;refine(tK _ _ _).mono ?_;rintro e d ⟨rfl,rfl⟩)
    go_ret;exact⟨gG b.o.symm,rfl⟩
  ·have:k=34:=Oa
   subst this;have h0:Hid (wZ s.data.toList=false):=c.o;clear c;go_wp2;go_ret;exact⟨gG h0.o.symm,rfl⟩
end Go.Proofs.YtikffmloeifkpaaGreatDoor
