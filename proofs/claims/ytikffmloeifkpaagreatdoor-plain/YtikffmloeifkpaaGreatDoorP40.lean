/- Contracts. -/
import Derived.Test.YtikffmloeifkpaaGreatDoorP26
import Derived.Test.YtikffmloeifkpaaGreatDoorP24
import Derived.Laws.IdiomStrings
namespace Go.Proofs.YtikffmloeifkpaaGreatDoor
open Go.RowKit Go.Lib Go.Deep Go.Maps Go.ChangeMaps Go.MapKept
def dg(k:Nat):List UInt8:=if k=0 then[]else fW k
theorem aVY{k:Nat}{acc:List UInt8}(hk:k < 10)(h0:k≠0):dg (k / 10)++(UInt8.ofNat (48+k % 10)::acc)=dg k++acc:=by
 unfold dg fW;rw[if_pos (by omega),if_neg h0,if_pos hk];simp[Nat.mod_eq_of_lt hk]
theorem aVV{n:Nat}(hn:n < 100):dg (n / 10)++[UInt8.ofNat (48+n % 10)]=fW n:=by
 unfold dg fW
 by_cases h:n < 10
 ·rw[if_pos (by omega),if_pos h];simp[Nat.mod_eq_of_lt h]
 ·rw[if_neg (by omega),if_pos (by omega),if_neg h];simp
theorem aVT(k:Nat)(w:World):(convert 65 9 (.slice (some ⟨w.heap.size,0,none⟩) 1 1)).run Tryz.prog (w.alloc (.cells #[.int .u8 (48+(k:Int) % 10)] 5))= .ok (.string ⟨[UInt8.ofNat (48+k % 10)].toArray⟩) (w.alloc (.cells #[.int .u8 (48+(k:Int) % 10)] 5)):=by
 have h:=run_convert_bytes_back (P:=Tryz.prog) (w.alloc (.cells #[.int .u8 (48+(k:Int) % 10)] 5)) 65 9 5 ⟨w.heap.size,0,none⟩ 1 [UInt8.ofNat (48+k % 10)] (by kernel_rfl) (by kernel_rfl) (by kernel_rfl) (fun j hj=>by
  obtain rfl:j=0:=by simpa using hj
  show(w.alloc _).cell? ⟨w.heap.size,0,none⟩=_;rw[cell_of_row _ _ _ _ _ _ (heap_alloc_new w _)];show some (Value.int .u8 (48+(k:Int) % 10))=some (Value.int .u8 (((UInt8.ofNat (48+k % 10)).toNat:Nat):Int))
  congr 2
  rw[UInt8.toNat_ofNat',Nat.mod_eq_of_lt (by omega)];omega)
 exact h
set_option maxRecDepth 100000 in
set_option maxHeartbeats 4000000 in
theorem aVK(n:Nat)(hn:n < 100)(w:World):Calls Tryz.prog 28 #[.int .i64 n] w fun e w'=>e= .returned (.string ⟨(fW n).toArray⟩)/\Below w.heap.size w w':=by
 go_enter Tryz.func28,Tryz.ntmps28
 go_wp2_with fail
 go_loopg [0,3] 2 (fun m v0 v3 wr=>∃ (k:Nat) (acc:List UInt8),v0= .int .i64 k/\v3= .string ⟨acc.toArray⟩/\k < 100/\Below w.heap.size w wr/\((acc=[]/\k=n/\2<=m)\/(acc≠[]/\dg k++acc=fW n/\k < 10/\(k≠0->1<=m))))
 case atStart=>exact⟨n,[],rfl,rfl,hn,Below.refl _ _,.inl ⟨rfl,rfl,Nat.le_refl _⟩⟩
 case round=>
  obtain⟨k,acc,rfl,rfl,hk,hb,hc⟩:=hrel;have hkI:(0:Int)<=(k:Int)/\(k:Int) < 100:=by omega
  have h9:=aVT k wr;obtain⟨b,h8⟩:∃ b,b=UInt8.ofNat (48+k % 10):=⟨_,rfl⟩;rw[<-h8]at h9;have k0:Hid _:=h8;clear h8
  have h5:∀ a:List UInt8,(⟨[b].toArray⟩:ByteArray)++⟨a.toArray⟩=⟨(b::a).toArray⟩:=fun a=>by
   apply ByteArray.ext;rw[ByteArray.data_append];simp
  have HB:Hid (∀ o,Below w.heap.size w (wr.alloc o)):=fun o=>hb.alloc hb.size o;have k1:Hid (Below w.heap.size w wr):=hb;have h4:(k:Int) / 10=((k / 10:Nat):Int):=by omega
  clear hb;rcases hc with⟨rfl,rfl,hm⟩|⟨h6,hd,h7,hm⟩
  ·obtain⟨m,rfl⟩:∃ m,gk=m+1:=⟨gk - 1,by omega⟩
   have fin:∀ o,∃ (k':Nat) (acc:List UInt8),Value.int .i64 ((k:Int) / 10)= .int .i64 k'/\Value.string ((⟨[b].toArray⟩:ByteArray)++⟨([]:List UInt8).toArray⟩)= .string ⟨acc.toArray⟩/\k' < 100/\Below w.heap.size w (wr.alloc o)/\((acc=[]/\k'=k/\2<=m)\/(acc≠[]/\dg k'++acc=fW k/\k' < 10/\(k'≠0->1<=m))):=fun o=>
    ⟨k / 10,[b],by rw[h4],by rw[h5],by omega,HB.out o,.inr ⟨by simp,by rw[k0.out];exact aVV hk,by omega,fun _=>by omega⟩⟩
   have FIN:Hid _:=fin;clear fin h4 h5
   by_cases h0:0 < k
   ·have d0:decide ((0:Int) < (k:Int))=true:=decide_eq_true (by omega);go_wp2_with fail
    go_roundg m
    case rel=>exact FIN.out _
    case measure=>omega
   ·have d0:decide ((0:Int) < (k:Int))=false:=decide_eq_false (by omega);have ht:((⟨#[]⟩:ByteArray).toList==(⟨#[]⟩:ByteArray).toList)=true:=by simp
    go_wp2_with fail
    go_roundg m
    case rel=>exact FIN.out _
    case measure=>omega
  ·by_cases h0:k=0
   ·subst h0;have ha:acc=fW n:=by simpa[dg]using hd
    have ht:acc.isEmpty=false:=by simpa using h6
    have HA:Hid _:=ha;clear hd h6 h9 h5 h4 ha;go_wp2;go_ret;exact⟨by rw[HA.out];rfl,k1.out⟩
   ·obtain⟨m,rfl⟩:∃ m,gk=m+1:=⟨gk - 1,by have:=hm h0;omega⟩
    have fin:∀ o,∃ (k':Nat) (acc':List UInt8),Value.int .i64 ((k:Int) / 10)= .int .i64 k'/\Value.string ((⟨[b].toArray⟩:ByteArray)++⟨acc.toArray⟩)= .string ⟨acc'.toArray⟩/\k' < 100/\Below w.heap.size w (wr.alloc o)/\((acc'=[]/\k'=n/\2<=m)\/(acc'≠[]/\dg k'++acc'=fW n/\k' < 10/\(k'≠0->1<=m))):=fun o=>
     ⟨k / 10,b::acc,by rw[h4],by rw[h5],by omega,HB.out o,.inr ⟨by simp,by rw[k0.out,aVY h7 h0];exact hd,by omega,fun h=>absurd h (by omega)⟩⟩
    have FIN:Hid _:=fin
    have hl:acc.length<=2:=by
     have h2:=congrArg List.length hd;rw[List.length_append]at h2;have h3:(fW n).length<=2:=by unfold fW;split<;>simp
     omega
    have h1:0 < k:=by omega
    have d0:decide ((0:Int) < (k:Int))=true:=decide_eq_true (by omega);clear fin h4 h5 hd h6 h0 hm;go_wp2_with fail
    go_roundg m
    case rel=>exact FIN.out _
    case measure=>omega
end Go.Proofs.YtikffmloeifkpaaGreatDoor
