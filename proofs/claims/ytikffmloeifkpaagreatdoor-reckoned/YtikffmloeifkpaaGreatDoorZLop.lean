/- Contracts. -/
import Derived.Test.YtikffmloeifkpaaGreatDoorR24
import Derived.Test.YtikffmloeifkpaaGreatDoorZLrk
namespace Go.Proofs.YtikffmloeifkpaaGreatDoor
open Go.RowKit Go.Lib Go.Deep Go.ChangeMaps Go.MapKept
theorem bDO{a c:Int}{b d:Bool}(h:a=c)(h2:b=d):Ending.returned (.tuple #[.int .i64 a,.bool b])= .returned (.tuple #[.int .i64 c,.bool d]):=by rw[h,h2]
set_option maxRecDepth 100000 in
set_option maxHeartbeats 4000000 in
theorem bDN(i:Nat)(hi:i < 5)(a b:Int)(w:World):Calls Tryz.prog 24 #[.int .i64 i,.int .i64 a,.int .i64 b] w fun e w'=>e= .returned (.tuple #[.int .i64 (opW i a b).1,.bool (opW i a b).2])/\w=w':=by
 have h2:i=0\/i=1\/i=2\/i=3\/i=4:=by omega
 rcases h2 with rfl|rfl|rfl|rfl|rfl
 ·have hR:Hid (opW (0:Nat) a b=(wrap64 (a+b),true)):=rfl;go_enter Tryz.func24,Tryz.ntmps24
  go_wp2;go_ret2
  exact⟨bDO (by rw[hR.out]) (by rw[hR.out]),rfl⟩
 ·have hR:Hid (opW (1:Nat) a b=(wrap64 (a - b),true)):=rfl;go_enter Tryz.func24,Tryz.ntmps24
  go_wp2;go_ret2
  exact⟨bDO (by rw[hR.out]) (by rw[hR.out]),rfl⟩
 ·have hR:Hid (opW (2:Nat) a b=(wrap64 (a*b),true)):=rfl;go_enter Tryz.func24,Tryz.ntmps24
  go_wp2;go_ret2
  exact⟨bDO (by rw[hR.out]) (by rw[hR.out]),rfl⟩
 ·by_cases h0:b=0
  ·have hR:Hid (opW (3:Nat) a b=(0,false)):=by rw[Hid];unfold opW;rw[if_pos ⟨by omega,h0⟩]
   have t0:(b==0)=true:=by simp[h0]
   clear h0;go_enter Tryz.func24,Tryz.ntmps24
   go_wp2;go_ret2
   exact⟨bDO (by rw[hR.out]) (by rw[hR.out]),rfl⟩
  ·have t0:(b==0)=false:=by simp[h0]
   have hR:Hid (opW (3:Nat) a b=(wrap64 (a.tdiv b),true)):=by rw[Hid];unfold opW;rw[if_neg (fun h=>h0 h.2)];rfl
   by_cases h1:b= -1
   ·have t1:(b==-1)=true:=by simp[h1]
    have hq:wrap64 (a.tdiv b)=wrap64 (-a):=by rw[h1,Int.tdiv_neg,Int.tdiv_one]
    rw[hq]at hR;clear h0 h1 hq;go_enter Tryz.func24,Tryz.ntmps24
    go_wp2;go_ret2
    exact⟨bDO (by rw[hR.out]) (by rw[hR.out]),rfl⟩
   ·have t1:(b==-1)=false:=by simp[h1]
    have hb0:b≠0:=h0;clear h1;go_enter Tryz.func24,Tryz.ntmps24
    go_wp2;go_ret2
    exact⟨bDO (by rw[hR.out]) (by rw[hR.out]),rfl⟩
 ·by_cases h0:b=0
  ·have hR:Hid (opW (4:Nat) a b=(0,false)):=by rw[Hid];unfold opW;rw[if_pos ⟨by omega,h0⟩]
   have t0:(b==0)=true:=by simp[h0]
   clear h0;go_enter Tryz.func24,Tryz.ntmps24
   go_wp2;go_ret2
   exact⟨bDO (by rw[hR.out]) (by rw[hR.out]),rfl⟩
  ·have t0:(b==0)=false:=by simp[h0]
   have hR:Hid (opW (4:Nat) a b=(a.tmod b,true)):=by rw[Hid];unfold opW;rw[if_neg (fun h=>h0 h.2)];rfl
   by_cases h1:b= -1
   ·have t1:(b==-1)=true:=by simp[h1]
    have hq:a.tmod b=0:=by rw[h1,Int.tmod_neg,Int.tmod_one]
    rw[hq]at hR;clear h0 h1 hq;go_enter Tryz.func24,Tryz.ntmps24
    go_wp2;go_ret2
    exact⟨bDO (by rw[hR.out]) (by rw[hR.out]),rfl⟩
   ·have t1:(b==-1)=false:=by simp[h1]
    clear h1;go_enter Tryz.func24,Tryz.ntmps24
    go_wp2;go_ret2
    exact⟨bDO (by rw[hR.out]) (by rw[hR.out]),rfl⟩
end Go.Proofs.YtikffmloeifkpaaGreatDoor
