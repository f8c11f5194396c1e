/- Contracts. -/
import Derived.Test.YtikffmloeifkpaaGreatDoorQ24
set_option maxHeartbeats 1000000
namespace Go.Proofs.YtikffmloeifkpaaGreatDoor
open Go.RowKit Go.Lib Go.Deep
abbrev Rg:=Int × Int
def rgV(r:Rg):Value:= .agg #[.int .i64 r.1,.int .i64 r.2]
theorem aS(r:Rg):rgV r= .agg #[.int .i64 r.1,.int .i64 r.2]:=rfl
def bEE:Rg:=(-9223372036854775808,9223372036854775807)
def fF:Rg:=(9223372036854775807,-9223372036854775808)
def cQ(n:Int):Rg:=(n,n)
def aBW(n:Int):Rg:=(-9223372036854775808,n)
def tF(n:Int):Rg:=(n,9223372036854775807)
def iU(r:Rg):Bool:=decide (r.2 < r.1)
def eH(r:Rg):Bool:=decide (r.1=r.2)
def jD(r:Rg)(n:Int):Bool:=decide (r.1<=n/\n<=r.2)
def bQ(a b:Rg):Rg:=(min a.1 b.1,max a.2 b.2)
def jP(a b:Rg):Rg:=(max a.1 b.1,min a.2 b.2)
def dS(r:Rg)(n:Int):Rg:=if r=cQ n then fF else if r.1=n then(w64 (n+1),r.2)else if r.2=n then(r.1,w64 (n - 1))else r
def nG(r:Rg):Rg:=if jD r (-9223372036854775808)then bEE else(w64 (-r.2),w64 (-r.1))
def cH(a b:Rg):Rg:=(if b.1 < a.1 then -9223372036854775808 else a.1,if a.2 < b.2 then 9223372036854775807 else a.2)
theorem aH{w:World}{k:Nat}{a p:Value}{t:TypeId}(h:w.heap[k]?=some (.cells #[a,p] t (0,0))):
 w.cell? ⟨k,0,none⟩=some a/\w.cell? ⟨k,1,none⟩=some p/\(∀ o,w.frozen? ⟨k,o,none⟩=false):=
 ⟨cell_of_row _ _ _ _ _ _ h,cell_of_row _ _ _ _ _ _ h,fun o=>by simp[World.frozen?,h]⟩
theorem rK(w:World):Calls Tryz.prog 133 #[] w fun e w'=>e= .returned (rgV bEE)/\Below w.heap.size w w':=by
 go_enter Tryz.func133,Tryz.ntmps133
 go_wp2;refine bodyPost_ret (v:=rgV bEE) (by simp[results,Tryz.results133,go_sem,rgV,bEE]) rfl ⟨rfl,?_⟩;exact(Below.refl _ _).alloc Ol _
theorem aNB(w:World):Calls Tryz.prog 310 #[] w fun e w'=>e= .returned (rgV fF)/\Below w.heap.size w w':=by
 go_enter Tryz.func310,Tryz.ntmps310
 go_wp2;refine bodyPost_ret (v:=rgV fF) (by simp[results,Tryz.results310,go_sem,rgV,fF]) rfl ⟨rfl,?_⟩;exact(Below.refl _ _).alloc Ol _
theorem aHR(n:Int)(w:World):Calls Tryz.prog 306 #[.int .i64 n] w fun e w'=>e= .returned (rgV (cQ n))/\Below w.heap.size w w':=by
 go_enter Tryz.func306,Tryz.ntmps306
 go_wp2;refine bodyPost_ret (v:=rgV (cQ n)) (by simp[results,Tryz.results306,go_sem,rgV,cQ]) rfl ⟨rfl,?_⟩;exact(Below.refl _ _).alloc Ol _
theorem aUA(n:Int)(w:World):Calls Tryz.prog 262 #[.int .i64 n] w fun e w'=>e= .returned (rgV (aBW n))/\Below w.heap.size w w':=by
 go_enter Tryz.func262,Tryz.ntmps262
 go_wp2;refine bodyPost_ret (v:=rgV (aBW n)) (by simp[results,Tryz.results262,go_sem,rgV,aBW]) rfl ⟨rfl,?_⟩;exact(Below.refl _ _).alloc Ol _
theorem aSY(n:Int)(w:World):Calls Tryz.prog 263 #[.int .i64 n] w fun e w'=>e= .returned (rgV (tF n))/\Below w.heap.size w w':=by
 go_enter Tryz.func263,Tryz.ntmps263
 go_wp2;refine bodyPost_ret (v:=rgV (tF n)) (by simp[results,Tryz.results263,go_sem,rgV,tF]) rfl ⟨rfl,?_⟩;exact(Below.refl _ _).alloc Ol _
theorem aI5(r:Rg)(w:World):Calls Tryz.prog 265 #[rgV r] w fun e w'=>e= .returned (.bool (iU r))/\Below w.heap.size w w':=by
 obtain⟨a,b⟩:=r;show Calls _ _ #[.agg #[.int .i64 a,.int .i64 b]] _ _;go_enter Tryz.func265,Tryz.ntmps265
 go_wp2;go_ret;exact⟨bX (by simp[iU]),(Below.refl _ _).alloc Ol _⟩
theorem uT(r:Rg)(w:World):Calls Tryz.prog 266 #[rgV r] w fun e w'=>e= .returned (.bool (eH r))/\Below w.heap.size w w':=by
 obtain⟨a,b⟩:=r;show Calls _ _ #[.agg #[.int .i64 a,.int .i64 b]] _ _;go_enter Tryz.func266,Tryz.ntmps266
 go_wp2;go_ret;exact⟨yL (by simp[eH]),(Below.refl _ _).alloc Ol _⟩
theorem aEE(r:Rg)(n:Int)(w:World):Calls Tryz.prog 338 #[rgV r,.int .i64 n] w fun e w'=>e= .returned (.bool (jD r n))/\Below w.heap.size w w':=by
 obtain⟨a,b⟩:=r;show Calls _ _ #[.agg #[.int .i64 a,.int .i64 b],_] _ _;go_enter Tryz.func338,Tryz.ntmps338
 go_wp2
 all_goals (go_ret;exact⟨yL (by simp[jD];try omega),(Below.refl _ _).alloc Ol _⟩)
theorem aNH(r s:Rg)(w:World):Calls Tryz.prog 315 #[rgV r,rgV s] w fun e w'=>e= .returned (rgV (bQ r s))/\Below w.heap.size w w':=by
 obtain⟨a,b⟩:=r;obtain⟨c,d⟩:=s;show Calls _ _ #[.agg #[.int .i64 a,.int .i64 b],.agg #[.int .i64 c,.int .i64 d]] _ _;go_enter Tryz.func315,Tryz.ntmps315
 go_wp2;refine bodyPost_ret (v:=rgV (bQ (a,b) (c,d))) (by simp[results,Tryz.results315,go_sem,rgV,bQ]) rfl ⟨rfl,?_⟩;exact(((Below.refl _ _).alloc Ol _).alloc Od _).alloc (by simp;omega) _
theorem aRX(r s:Rg)(w:World):Calls Tryz.prog 264 #[rgV r,rgV s] w fun e w'=>e= .returned (rgV (jP r s))/\Below w.heap.size w w':=by
 obtain⟨a,b⟩:=r;obtain⟨c,d⟩:=s;show Calls _ _ #[.agg #[.int .i64 a,.int .i64 b],.agg #[.int .i64 c,.int .i64 d]] _ _;go_enter Tryz.func264,Tryz.ntmps264
 go_wp2;refine bodyPost_ret (v:=rgV (jP (a,b) (c,d))) (by simp[results,Tryz.results264,go_sem,rgV,jP]) rfl ⟨rfl,?_⟩;exact(((Below.refl _ _).alloc Ol _).alloc Od _).alloc (by simp;omega) _
theorem aP8(r s:Rg)(w:World):Calls Tryz.prog 345 #[rgV r,rgV s] w fun e w'=>e= .returned (rgV (cH r s))/\Below w.heap.size w w':=by
 obtain⟨a,b⟩:=r;obtain⟨c,d⟩:=s;show Calls _ _ #[.agg #[.int .i64 a,.int .i64 b],.agg #[.int .i64 c,.int .i64 d]] _ _
 by_cases h1:c < a<;>by_cases h2:b < d
 all_goals
  go_enter Tryz.func345,Tryz.ntmps345
  go_wp2;refine bodyPost_ret (v:=rgV (cH (a,b) (c,d))) (by simp[results,Tryz.results345,go_sem,rgV,cH,h1,h2]<;>omega) rfl ⟨rfl,?_⟩;exact(((Below.refl _ _).alloc Ol _).alloc Od _).alloc (by simp;omega) _
theorem aGU(w:World)(x y:Obj):((w.alloc x).alloc y).heap[w.heap.size]?=some x/\((w.alloc x).alloc y).heap[w.heap.size+1]?=some y/\Below w.heap.size w ((w.alloc x).alloc y)/\((w.alloc x).alloc y).heap.size=w.heap.size+2:=by
 refine⟨(On Od).trans (Qb w x),?_,((Below.refl _ _).alloc Ol _).alloc Od _,Od⟩;have h:=Qb (w.alloc x) y
 rwa [show(w.alloc x).heap.size=w.heap.size+1 by simp]at h
theorem aKT(w:World)(x y z:Obj):(((w.alloc x).alloc y).alloc z).heap[w.heap.size]?=some x/\(((w.alloc x).alloc y).alloc z).heap[w.heap.size+1]?=some y/\(((w.alloc x).alloc y).alloc z).heap[w.heap.size+1+1]?=some z/\Below w.heap.size w (((w.alloc x).alloc y).alloc z)/\(((w.alloc x).alloc y).alloc z).heap.size=w.heap.size+3:=by
 obtain⟨h1,h2,h3,h4⟩:=aGU w x y;refine⟨(On Oa).trans h1,(On Oa).trans h2,?_,h3.alloc Oa _,Od⟩;have h:=Qb ((w.alloc x).alloc y) z
 rwa [h4]at h
theorem aNE(r:Rg)(w:World):Calls Tryz.prog 308 #[rgV r] w fun e w'=>e= .returned (rgV (nG r))/\Below w.heap.size w w':=by
 obtain⟨a,b⟩:=r;show Calls _ _ #[.agg #[.int .i64 a,.int .i64 b]] _ _;obtain⟨b1,b2,HB,hz⟩:=aGU w (.cells #[.int .i64 a,.int .i64 b] 259) (.cells #[.int .i64 0,.int .i64 0] 259);have hn:=aEE (a,b) (-9223372036854775808) ((w.alloc (.cells #[.int .i64 a,.int .i64 b] 259)).alloc (.cells #[.int .i64 0,.int .i64 0] 259));generalize h1:(w.alloc (.cells #[.int .i64 a,.int .i64 b] 259)).alloc (.cells #[.int .i64 0,.int .i64 0] 259)=W0 at*;obtain⟨p0,p1,p2⟩:=aH b1;go_enter Tryz.func308,Tryz.ntmps308
 go_wp2_with fail
 refine hn.mono ?_;rintro e W ⟨rfl,h2⟩;have k0:=(h2.block _ Oa).trans b1;have k1:=(h2.block _ Oa).trans b2;have h0:Hid (Below w.heap.size w W):=HB.trans (h2.mono Oa);have hs:w.heap.size+2<=W.heap.size:=by have:=h2.size;omega
 clear p0 p1 p2;obtain⟨p0,p1,p2⟩:=aH k0;obtain⟨q0,q1,q2⟩:=aH k1;clear b1 b2 h2 k0 HB h1;cases hh:jD (a,b) (-9223372036854775808)
 ·have HF:Hid (nG (a,b)=(w64 (-b),w64 (-a))):=by rw[Hid,nG,hh];rfl
  clear hh;go_wp2;obtain⟨x0,x1⟩:=dQ (w:=W) (u0:= .int .i64 (wrap64 (-b))) (u1:= .int .i64 (wrap64 (-a))) q0 q1;rw[HF.out];refine bodyPost_ret (v:= .agg #[.int .i64 (wrap64 (-b)),.int .i64 (wrap64 (-a))]) (by simp[results,Tryz.results308,go_sem,x0,x1]) rfl ⟨rfl,?_⟩;exact(h0.out.setCell (by show _<=_+1;omega) _).setCell (by show _<=_+1;omega) _
 ·have HF:Hid (nG (a,b)=bEE):=by rw[Hid,nG,hh];rfl
  clear hh;go_wp2_with fail
  refine(rK W).mono ?_;rintro e W2 ⟨rfl,h3⟩;obtain⟨r0,r1,r2⟩:=aH ((h3.block _ Oa).trans k1);clear q0 q1 q2 p0 p1 p2;rw[aS];go_wp2;obtain⟨x0,x1⟩:=dQ (w:=W2) (u0:= .int .i64 bEE.1) (u1:= .int .i64 bEE.2) r0 r1;rw[HF.out];refine bodyPost_ret (v:=rgV bEE) (by simp[results,Tryz.results308,go_sem,aS,x0,x1]) rfl ⟨rfl,?_⟩;exact((h0.out.trans (h3.mono Oa)).setCell (by show _<=_+1;omega) _).setCell (by show _<=_+1;omega) _
def aAV(x y:Int):Int × Bool:=(w64 (x+y),decide (x<=w64 (x+y))==decide (0<=y))
def wE(x y:Int):Int × Bool:=(w64 (x - y),decide (w64 (x - y)<=x)==decide (0<=y))
def mW(x y:Int):Int × Bool:=if x=0 then(0,true)else if x= -1 then(w64 (x*y),decide (y≠-9223372036854775808))else(w64 (x*y),decide (w64 ((w64 (x*y)).tdiv x)=y))
def wX(x y:Int):Int × Bool:=(w64 (x.tdiv y),true)
def aD5(p:Int × Bool):Value:= .tuple #[.int .i64 p.1,.bool p.2]
theorem rT{a c:Int}{b d:Bool}(h:a=c)(h2:b=d):Ending.returned (.tuple #[.int .i64 a,.bool b])= .returned (aD5 (c,d)):=by rw[h,h2];rfl
theorem aSH(x y:Int)(w:World):Calls Tryz.prog 356 #[.int .i64 x,.int .i64 y] w fun e w'=>e= .returned (aD5 (aAV x y))/\w=w':=by
 go_enter Tryz.func356,Tryz.ntmps356
 go_wp2;go_ret2
 exact⟨rT rfl rfl,rfl⟩
theorem aQJ(x y:Int)(w:World):Calls Tryz.prog 357 #[.int .i64 x,.int .i64 y] w fun e w'=>e= .returned (aD5 (wE x y))/\w=w':=by
 go_enter Tryz.func357,Tryz.ntmps357
 go_wp2;go_ret2
 exact⟨rT rfl rfl,rfl⟩
theorem aSK(x y:Int)(w:World)(hy:y≠0):Calls Tryz.prog 359 #[.int .i64 x,.int .i64 y] w fun e w'=>e= .returned (aD5 (wX x y))/\w=w':=by
 have hy0:(y==0)=false:=by simp[hy]
 go_enter Tryz.func359,Tryz.ntmps359
 go_wp2;go_ret2
 exact⟨rT rfl rfl,rfl⟩
theorem aPK(x y:Int)(w:World):Calls Tryz.prog 358 #[.int .i64 x,.int .i64 y] w fun e w'=>e= .returned (aD5 (mW x y))/\∃ n,w'=w.drewN n:=by
 by_cases h0:x=0
 ·have hf:mW x y=(0,true):=if_pos h0;rw[hf];subst h0;go_enter Tryz.func358,Tryz.ntmps358
  go_wp2;go_ret2
  exact⟨rT rfl rfl,0,rfl⟩
 ·by_cases h1:x= -1
  ·have hf:mW x y=(w64 (x*y),decide (y≠-9223372036854775808)):=by rw[mW,if_neg h0,if_pos h1]
   rw[hf];subst h1;go_enter Tryz.func358,Tryz.ntmps358
   go_wp2;go_ret2
   exact⟨rT (by simp[w64]) (by rw[Bool.eq_iff_iff];simp),0,rfl⟩
  ·have hf:mW x y=(w64 (x*y),decide (w64 ((w64 (x*y)).tdiv x)=y)):=by rw[mW,if_neg h0,if_neg h1]
   rw[hf];have t0:(x==0)=false:=by simp[h0]
   have t1:(x==-1)=false:=by simp[h1]
   clear h1 hf;go_enter Tryz.func358,Tryz.ntmps358
   go_wp2;go_quiet (fail)
   go_wp2;go_ret2
   exact⟨rT rfl rfl,_,rfl⟩
end Go.Proofs.YtikffmloeifkpaaGreatDoor
