/- Contracts. -/
import Derived.Test.YtikffmloeifkpaaGreatDoorR05
import Derived.Deep.Trees
namespace Go.Proofs.YtikffmloeifkpaaGreatDoor
open Go.RowKit Go.Lib Go.Deep
section
structure Nd where
 a:Nat
 op:Int:=0
 e:Int:=0
 h:ByteArray:=ByteArray.mk #[]
 b:Int:=0
 g:Int:=0
 flag:Bool:=false
 c:Int:=0
 f:Int:=0
abbrev Tr:=BT Nd
def mk(a:Nd)(l r:Tr):Tr:= .node 0 0 a l r
def er:Tr->Tr
 | .nil=> .nil
 | .node _ _ a l r=> .node 0 0 a (er l) (er r)
def bG:Tr->Nat
 | .nil=>0
 | .node _ _ _ _ r=>bG r+1
theorem aN9(t:Tr):bG (er t)=bG t:=by
 induction t with
 |nil=>rfl
 |node b o a l r _ ih=>simp only[er,bG,ih]
def iV(n:Nat):TypeId:=
 if n=0 then 362 else if n=1 then 359 else if n=2 then 393 else if n=3 then 396 else if n=4 then 398 else if n=5 then 401
 else if n=6 then 403 else if n=7 then 253 else if n=8 then 407 else if n=9 then 326 else if n=10 then 329 else if n=11 then 332
 else if n=12 then 338 else if n=13 then 341 else if n=14 then 344 else if n=16 then 192 else 106
def aH:Tr->Value
 | .nil=> .slice none 0 0
 | .node b o a l _=>if a.a=20 then .slice (some ⟨b,0,none⟩) (bG l) o else .iface (iV a.a) (.pointer (some ⟨b,0,none⟩))
def fO:Tr->Value
 | .nil=> .pointer none
 | .node b _ _ _ _=> .pointer (some ⟨b,0,none⟩)
def At(w:World)(k:Nat)(t:TypeId)(Q:Array Value->Prop):Prop:=∃ cs,w.1[k]?=some (.cells cs t (0,0))/\Q cs
def uB(cs:Array Value)(o:Nat)(a:Nd):Prop:=cs[o]?=some (.string a.h)/\cs[o+1]?=some (Qc a.b)/\cs[o+2]?=some (Qc a.c)
def aYP(cs:Array Value)(o:Nat):Tr->Prop
 | .nil=>False
 | .node b o' a l r=>if a.a=19 then uB cs (o*3) a else if a.a=7 then cs[o]?=some (fO (.node b o' a l r))else cs[o]?=some (aH (.node b o' a l r))
def mI(cs:Array Value):Nat->Tr->Prop
 |_,.nil=>True
 |o,.node _ _ _ l r=>aYP cs o l/\mI cs (o+1) r
def cI(l:Tr):TypeId:=match l with
 | .node _ _ _ (.node _ _ a _ _) _=>if a.a=19 then 100 else if a.a=7 then 253 else if a.a < 7 then 269 else if a.a < 15 then 250 else 151
 |_=>0
def gM(n:Nat)(w:World)(b:Nat)(a:Nd)(l r:Tr):Prop:=match n with
 |0=>At w b 364 fun cs=>cs[0]?=some (.int .i64 a.g)
 |1=>At w b 361 fun cs=>uB cs 0 a
 |2=>At w b 395 fun cs=>uB cs 0 a/\cs[3]?=some (aH l)/\cs[4]?=some (.int .i64 a.f)
 |3=>At w b 450 fun cs=>uB cs 0 a/\cs[3]?=some (aH l)/\cs[4]?=some (.int .i64 a.f)
 |4=>At w b 400 fun cs=>cs[0]?=some (aH l)
 |5=>At w b 402 fun cs=>cs[0]?=some (aH l)
 |6=>At w b 405 fun cs=>cs[0]?=some (.int .i64 a.op)/\cs[1]?=some (.int .i64 a.e)/\cs[2]?=some (aH l)/\cs[3]?=some (aH r)/\cs[4]?=some (.int .i64 a.f)
 |7=>At w b 271 fun cs=>cs[0]?=some (.int .i64 a.op)/\cs[1]?=some (.int .i64 a.e)/\cs[2]?=some (aH l)/\cs[3]?=some (aH r)
 |8=>At w b 409 fun cs=>cs[0]?=some (.int .i64 a.op)/\cs[1]?=some (aH l)/\cs[2]?=some (aH r)
 |9=>At w b 328 fun cs=>uB cs 0 a/\cs[3]?=some (aH l)/\cs[4]?=some (.bool a.flag)
 |10=>At w b 331 fun cs=>uB cs 0 a/\cs[3]?=some (aH l)/\cs[4]?=some (aH r)/\cs[5]?=some (.int .i64 a.f)
 |11=>At w b 337 fun cs=>cs[0]?=some (aH l)/\∃ x y z p q,r= .node x y z p q/\cs[1]?=some (aH p)/\cs[2]?=some (aH q)
 |12=>At w b 340 fun cs=>cs[0]?=some (aH l)/\cs[1]?=some (aH r)
 |13=>At w b 343 fun cs=>cs[0]?=some (aH l)
 |14=>At w b 345 fun cs=>cs[0]?=some (aH l)
 |16=>At w b 196 fun cs=>uB cs 0 a/\cs[3]?=some (.int .i64 a.g)/\cs[4]?=some (.int .i64 a.e)
 |17=>At w b 105 fun cs=>uB cs 0 a/\cs[3]?=some (aH l)/\∃ x y z p q,r= .node x y z p q/\cs[4]?=some (aH p)/\cs[5]?=some (aH q)/\cs[6]?=some (.int .i64 a.g)
 |20=>l≠ .nil/\At w b (cI l) fun cs=>mI cs 0 l
 |_=>True
def iR(w:World)(b:Nat)(a:Nd)(l r:Tr):Prop:=gM a.a w b a l r
def bU(w:World):Tr->Prop
 | .nil=>True
 | .node b _ a l r=>bU w l/\bU w r/\iR w b a l r
variable {T:List aU} {g J b:Nat} {r:Rd} {w w':World}
theorem At.keep{k:Nat}{t:TypeId}{Q:Array Value->Prop}(h:At w k t Q){c:Array Value}(i:w.1[b]?=some (.cells c 145 (0,0)))(j:t≠145)(e:Ex b w w'):At w' k t Q:=by
 obtain⟨a,d,f⟩:=h;refine⟨a,(e.block k Qg ?_).t d,f⟩
 grind
theorem aOL(l:Tr):cI l≠145:=by
 unfold cI
 grind
theorem gM.keep{n k:Nat}{a:Nd}{l r:Tr}(h:gM n w k a l r){c:Array Value}(d:w.1[b]?=some (.cells c 145 (0,0)))(e:Ex b w w'):gM n w' k a l r:=by
 match n,h with
 |0,h=>exact At.keep h d Ob e
 |1,h=>exact At.keep h d Ob e
 |2,h=>exact At.keep h d Ob e
 |3,h=>exact At.keep h d Ob e
 |4,h=>exact At.keep h d Ob e
 |5,h=>exact At.keep h d Ob e
 |6,h=>exact At.keep h d Ob e
 |7,h=>exact At.keep h d Ob e
 |8,h=>exact At.keep h d Ob e
 |9,h=>exact At.keep h d Ob e
 |10,h=>exact At.keep h d Ob e
 |11,h=>exact At.keep h d Ob e
 |12,h=>exact At.keep h d Ob e
 |13,h=>exact At.keep h d Ob e
 |14,h=>exact At.keep h d Ob e
 |16,h=>exact At.keep h d Ob e
 |17,h=>exact At.keep h d Ob e
 |20,h=>exact⟨h.1,h.2.keep d (aOL _) e⟩
 |15,_|18,_|19,_=>trivial
 |n+21,_=>trivial
theorem iR.keep{k:Nat}{a:Nd}{l r:Tr}(h:iR w k a l r){c:Array Value}(d:w.1[b]?=some (.cells c 145 (0,0)))(e:Ex b w w'):iR w' k a l r:=gM.keep h d e
theorem bU.keep{c:Array Value}(d:w.1[b]?=some (.cells c 145 (0,0)))(e:Ex b w w'):∀ t:Tr,bU w t->bU w' t:=by
 intro t
 induction t with
 |nil=>intro _;trivial
 |node k o a l r ihl ihr=>intro h;exact⟨ihl h.1,ihr h.2.1,h.2.2.keep d e⟩
theorem bU.ex{t:Tr}(h:bU w t)(c:eK T g J b r w)(a:Ex b w w'):bU w' t:=bU.keep c.blk a t h
def kJ(n:Nat):Prop:=n≠15/\n≠18/\n≠19
def dE(H:Nat):Tr->Prop
 | .nil=>True
 | .node b _ a l r=>dE H l/\dE H r/\(kJ a.a->H<=b)
def fN(k:Nat):Tr->Prop
 | .nil=>True
 | .node b _ a l r=>fN k l/\fN k r/\(kJ a.a->b≠k)
theorem dE.mono{H c:Nat}(d:c<=H):∀ {t:Tr},dE H t->dE c t:=by
 intro t
 induction t with
 |nil=>intro _;trivial
 |node b o a l r ihl ihr=>intro h;exact⟨ihl h.1,ihr h.2.1,fun p=>Qm d (h.2.2 p)⟩
theorem dE.notIn{H k:Nat}(c:k < H):∀ {t:Tr},dE H t->fN k t:=by
 intro t
 induction t with
 |nil=>intro _;trivial
 |node b o a l r ihl ihr=>intro h;exact⟨ihl h.1,ihr h.2.1,fun p=>Oi (h.2.2 p)⟩
theorem At.lt{w:World}{k:Nat}{t:TypeId}{Q:Array Value->Prop}(h:At w k t Q):k < w.1.size:=by obtain⟨a,c,_⟩:=h;grind
theorem At.same{k:Nat}{t:TypeId}{Q:Array Value->Prop}(h:At w k t Q)(d:w'.1[k]?=w.1[k]?):At w' k t Q:=by obtain⟨a,c,e⟩:=h;exact⟨a,d.t c,e⟩
theorem gM.lt{n k:Nat}{a:Nd}{l r:Tr}(h:gM n w k a l r)(c:kJ n)(d:n < 21):k < w.1.size:=by
 match n,h with
 |0,h|1,h|2,h|3,h|4,h|5,h|6,h|7,h|8,h|9,h|10,h|11,h|12,h|13,h|14,h|16,h|17,h=>exact At.lt h
 |20,h=>exact At.lt h.2
 |15,_=>exact absurd rfl c.1
 |18,_=>exact absurd rfl c.2.1
 |19,_=>exact absurd rfl c.2.2
 |n+21,_=>omega
theorem gM.same{n k:Nat}{a:Nd}{l r:Tr}(h:gM n w k a l r)(c:kJ n->w'.1[k]?=w.1[k]?):gM n w' k a l r:=by
 match n,h with
 |0,h|1,h|2,h|3,h|4,h|5,h|6,h|7,h|8,h|9,h|10,h|11,h|12,h|13,h|14,h|16,h|17,h=>exact At.same h (by grind[kJ])
 |20,h=>exact⟨h.1,At.same h.2 (by grind[kJ])⟩
 |15,_|18,_|19,_=>trivial
 |n+21,_=>trivial
def aBN:Tr->Prop
 | .nil=>True
 | .node _ _ a l r=>aBN l/\aBN r/\a.a < 21
theorem bU.o:∀ {t:Tr},bU w t->aBN t->∀ {k:Nat},w.1.size<=k->fN k t:=by
 intro t
 induction t with
 |nil=>intro _ _ _ _;trivial
 |node b o a l r ihl ihr=>intro h c k d;exact⟨ihl h.1 c.1 d,ihr h.2.1 c.2.1 d,fun p=>Oi (gM.lt h.2.2 p c.2.2)⟩
theorem bU.but{k:Nat}(e:∀ i,i < w.1.size->i≠k->w'.1[i]?=w.1[i]?):∀ {t:Tr},bU w t->aBN t->fN k t->bU w' t:=by
 intro t
 induction t with
 |nil=>intro _ _ _;trivial
 |node b o a l r ihl ihr=>
  intro h d c;exact⟨ihl h.1 d.1 c.1,ihr h.2.1 d.2.1 c.2.1,gM.same h.2.2 (fun p=>e b (gM.lt h.2.2 p d.2.2) (c.2.2 p))⟩
structure eW(H:Nat)(w:World)(t:Tr):Prop where
 is:bU w t
 fresh:dE H t
 known:aBN t
theorem eW.ex{H:Nat}{t:Tr}(h:eW H w t)(c:eK T g J b r w)(a:Ex b w w'):eW H w' t:=⟨h.is.ex c a,h.fresh,h.known⟩
theorem eW.mono{H a:Nat}{t:Tr}(h:eW H w t)(c:a<=H):eW a w t:=⟨h.is,h.fresh.mono c,h.known⟩
theorem eW.nil(H:Nat)(w:World):eW H w .nil:=⟨trivial,trivial,trivial⟩
theorem eW.node{H k o:Nat}{a:Nd}{l q:Tr}(c:eW H w l)(d:eW H w q)(e:kJ a.a->H<=k)(f:a.a < 21)(h:iR w k a l q):eW H w (.node k o a l q):=
 ⟨⟨c.is,d.is,h⟩,⟨c.fresh,d.fresh,e⟩,⟨c.known,d.known,f⟩⟩
theorem eW.o{H:Nat}{t:Tr}(h:eW H w t){k:Nat}(a:w.1.size<=k):fN k t:=h.is.o h.known a
theorem eW.but{H k:Nat}{t:Tr}(h:eW H w t)(c:∀ i,i < w.1.size->i≠k->w'.1[i]?=w.1[i]?)(a:fN k t):eW H w' t:=⟨h.is.but c h.known a,h.fresh,h.known⟩
end
section
variable (T:List aU)
abbrev Pr:=Rd->Rd × Tr
abbrev Prs:=Nat->Pr
def cons(e l:Tr):Tr:=mk {a:=15} e l
def gW(l:Tr):Tr:=match l with
 | .nil=> .nil
 |l=>mk {a:=20} l .nil
def jF(part:Pr)(Z:List Int):Nat->Rd->Tr->Rd × Tr
 |0,r,v=>(r,v)
 |n+1,r,v=>if aF T r Z then jF part Z n (part (r.take T Z)).1 (mk {a:=6,op:=(bX T r Z).d,e:=(bX T r Z).e} v (part (r.take T Z)).2)else(r,v)
def lX(part:Pr)(Z:List Int)(n:Nat):Pr:=fun r=>jF T part Z n (part r).1 (part r).2
def jD(part:Pr)(op:Int):Nat->Rd->Tr->Rd × Tr
 |0,r,v=>(r,v)
 |n+1,r,v=>if aF T r [op]then jD part op n (part (r.b0 T [op])).1 (mk {a:=8,op:=op} v (part (r.b0 T [op])).2)else(r,v)
def lS(part:Pr)(op:Int)(n:Nat):Pr:=fun r=>jD T part op n (part r).1 (part r).2
def gX:List Int:=[23,24,25,26,21,22]
def jL(side:Pr):Pr:=fun r=>
 ((side ((side r).1.take T gX)).1,mk {a:=7,op:=(bX T (side r).1 gX).d,e:=(aE T r.b).e} (side r).2 (side ((side r).1.take T gX)).2)
def aZ(one:Pr):Nat->Rd->Rd × Tr
 |0,r=>(r,.nil)
 |n+1,r=>if aF T r [18]then((aZ one n (one (r.b0 T [18])).1).1,cons (one (r.b0 T [18])).2 (aZ one n (one (r.b0 T [18])).1).2)else(r,.nil)
def dV(one:Pr)(n:Nat):Pr:=fun r=>((aZ T one n (one r).1).1,gW (cons (one r).2 (aZ T one n (one r).1).2))
def uP(v:Int):Tr:=mk {a:=0,g:=v} .nil .nil
def nJ(t:aU):Tr:=mk {a:=1,h:=t.f,b:=t.e} .nil .nil
def gL(expr:Pr):Pr:=fun r=>((expr (r.a0 T [16])).1.h0 T 17,(expr (r.a0 T [16])).2)
def jS(expr:Pr)(n:Nat):Pr:=fun r=>
 if aF T (r.a0 T [12]) [13]then((r.a0 T [12]).h0 T 13,.nil)
 else((dV T expr n (r.a0 T [12])).1.h0 T 13,(dV T expr n (r.a0 T [12])).2)
def gV(expr:Pr)(n:Nat)(t:aU):Pr:=fun r=>
 if aF T r [16]then((gL T expr r).1,mk {a:=2,h:=t.f,b:=t.e} (gL T expr r).2 .nil)
 else if aF T r [12]then((jS T expr n r).1,mk {a:=3,h:=t.f,b:=t.e} (jS T expr n r).2 .nil)
 else(r,nJ t)
def bQ:List Int:=[2,1,12,28]
def iI(expr factor:Pr)(n:Nat):Pr:=fun r=>
 let t:=bX T r bQ
 let r1:=r.take T bQ
 if t.d=2 then(r1,uP t.a)
 else if t.d=12 then((expr (r1.l0 T.length t.e)).1.h0 T 13,mk {a:=4} (expr (r1.l0 T.length t.e)).2 .nil)
 else if t.d=28 then
  let q:=factor (r1.l0 T.length t.e)
  (⟨q.1.b,q.1.c - 1,q.1.a,q.1.e⟩,mk {a:=5} q.2 .nil)
 else gV T expr n t r1
def jZ:Pr:=fun r=>
 let t:=bX T r [28,2,1]
 let r1:=r.take T [28,2,1]
 if t.d=28 then(r1.take T [2],uP (-(bX T r1 [2]).a))
 else if t.d=2 then(r1,uP t.a)
 else(r1,nJ t)
def iS:Pr:=jL T (jZ T)
def gQ(expr:Pr):Pr:=fun r=>((expr r).1.take T [19],(expr r).2)
def tG(expr:Pr)(t:aU)(isLet:Bool):Pr:=fun r=>
 ((gQ T expr (r.take T [20])).1,mk {a:=9,h:=t.f,b:=t.e,flag:=isLet} (gQ T expr (r.take T [20])).2 .nil)
def lF(expr:Pr)(t:aU):Pr:=fun r=>
 let i:=gL T expr r
 let v:=gQ T expr (i.1.take T [20])
 (v.1,mk {a:=10,h:=t.f,b:=t.e} i.2 v.2)
def cM(stmt:Pr):Nat->Rd->Rd × Tr
 |0,r=>(r,.nil)
 |n+1,r=>if aF T r [15,0]then(r,.nil)else((cM stmt n (stmt r).1).1,cons (stmt r).2 (cM stmt n (stmt r).1).2)
def rU(stmt:Pr)(n:Nat):Pr:=fun r=>((cM T stmt n (r.a0 T [14])).1.h0 T 15,gW (cM T stmt n (r.a0 T [14])).2)
def ifP(cond block:Pr):Pr:=fun r=>
 let c:=cond r
 let t:=block c.1
 if aF T t.1 [8]then((block (t.1.b0 T [8])).1,mk {a:=11} c.2 (mk {a:=18} t.2 (block (t.1.b0 T [8])).2))
 else(t.1,mk {a:=11} c.2 (mk {a:=18} t.2 .nil))
def aP:List Int:=[6,1,7,9,10,11]
def iQ(expr cond block:Pr):Pr:=fun r=>
 let t:=bX T r aP
 let r1:=r.take T aP
 if t.d=6 then tG T expr (bX T r1 [1]) true (r1.take T [1])
 else if t.d=7 then ifP T cond block r1
 else if t.d=9 then((block (cond r1).1).1,mk {a:=12} (cond r1).2 (block (cond r1).1).2)
 else if t.d=10 then((gQ T expr r1).1,mk {a:=13} (gQ T expr r1).2 .nil)
 else if t.d=11 then((gQ T expr r1).1,mk {a:=14} (gQ T expr r1).2 .nil)
 else if aF T r1 [16]then lF T expr t r1
 else tG T expr t false r1
def aGD(n:Nat)(rec:Prs):Prs:=fun s=>match s with
 |0=>iI T (rec 2) (rec 0) n
 |1=>lX T (rec 0) [29,30,31] n
 |2=>lX T (rec 1) [27,28] n
 |3=>jL T (rec 2)
 |4=>lS T (rec 3) 32 n
 |5=>lS T (rec 4) 33 n
 |6=>rU T (rec 7) n
 |_=>iQ T (rec 2) (rec 5) (rec 6)
def kQ:Nat->Prs
 |0=>fun s r=>(r.fail T.length 1 0,if s < 3 then mk {a:=0} .nil .nil else if s < 6 then mk {a:=7,op:=21} (mk {a:=0} .nil .nil) (mk {a:=0} .nil .nil)else if s=6 then .nil else mk {a:=13} (mk {a:=0} .nil .nil) .nil)
 |n+1=>aGD T n (kQ n)
def eL:Pr:=fun r=>(r.take T [1],mk {a:=19,h:=(bX T r [1]).f,b:=(bX T r [1]).e} .nil .nil)
def fM:Pr:=fun r=>
 let t:=bX T r [1]
 let r1:=r.take T [1]
 let n:=bX T r1 [2]
 let r2:=r1.take T [2]
 (r2.take T [19],mk {a:=16,h:=t.f,b:=t.e,g:=n.a,e:=n.e} .nil .nil)
def cH(block:Pr)(n:Nat):Pr:=fun r=>
 let t:=bX T r [1]
 let r1:=(r.take T [1]).a0 T [12]
 let ps:=if aF T r1 [1]then dV T (eL T) n r1 else(r1,.nil)
 let r2:=ps.1.h0 T 13
 let ws:=if aF T r2 [5]then dV T (iS T) n (r2.b0 T [5])else(r2,.nil)
 let bd:=block ws.1
 (bd.1,mk {a:=17,h:=t.f,b:=t.e} ps.2 (mk {a:=18} ws.2 bd.2))
def aL(block:Pr)(m:Nat):Nat->Rd->Rd × Tr
 |0,r=>(r,.nil)
 |n+1,r=>
  if aF T r [0]then(r,.nil)
  else
   let t:=bX T r [3,4]
   let r1:=r.take T [3,4]
   if t.d=3 then((aL block m n (fM T r1).1).1,cons (fM T r1).2 (aL block m n (fM T r1).1).2)
   else if t.d=4 then((aL block m n (cH T block m r1).1).1,cons (cH T block m r1).2 (aL block m n (cH T block m r1).1).2)
   else aL block m n r1
def rd0:Rd:=⟨0,0,0,0⟩
def eC:Nat:=T.length*16+16
def aK:Rd × Tr:=((aL T (kQ T (eC T) 6) (eC T) (eC T) rd0).1,gW (aL T (kQ T (eC T) 6) (eC T) (eC T) rd0).2)
end
section
variable {T:List aU}
def eD(T:List aU):Prop:=(T.getD (T.length - 1) uE).d=0
structure sJ(T:List aU)(r r':Rd):Prop where
 ge:r.b<=r'.b
 lt:r'.b < T.length
 c:r'.c=r.c
theorem sJ.refl{r:Rd}(h:r.b < T.length):sJ T r r:=⟨Oa,h,rfl⟩
theorem sJ.t{a b c:Rd}(h:sJ T a b)(k:sJ T b c):sJ T a c:=⟨Qm h.ge k.ge,k.lt,k.c.t h.c⟩
theorem aAU(d:eD T){r:Rd}(h:r.b < T.length){Y:List Int}(a:aF T r Y=true)(h0:aM Y 0=false):r.b+1 < T.length:=by
 rcases Qt (r.b+1) T.length with c|c
 ·exact c
 ·exfalso;have e:r.b=T.length - 1:=Oa
  unfold aF aE at a;rw[e,d,h0]at a;cases a
theorem tW(n:Nat)(r:Rd)(c p:Int):(r.fail n c p).b=n - 1/\(r.fail n c p).c=r.c:=by grind[Rd.fail]
theorem aN(c:eD T){r:Rd}(h:r.b < T.length){Y:List Int}(h0:aM Y 0=false):sJ T r (r.take T Y):=by
 unfold Rd.take
 by_cases a:aF T r Y=true
 ·rw[if_pos a];exact⟨by show r.b<=r.b+1;omega,aAU c h a h0,rfl⟩
 ·rw[if_neg a];have:=tW T.length r 2 (aE T r.b).e;exact⟨Oa,Oa,this.2⟩
theorem fF(c:eD T){r:Rd}(h:r.b < T.length){Y:List Int}(h0:aM Y 0=false):sJ T r (r.b0 T Y):=by
 unfold Rd.b0
 by_cases a:aF T r Y=true
 ·rw[if_pos a];exact⟨by show r.b<=r.b+1;omega,aAU c h a h0,rfl⟩
 grind[sJ.refl]
theorem pV{r:Rd}(h:r.b < T.length)(p:Int):r.b<=(r.l0 T.length p).b/\(r.l0 T.length p).b < T.length/\(r.l0 T.length p).c=r.c+1:=by
 unfold Rd.l0
 split
 ·grind[tW]
 simp[*]
theorem cZ(d:eD T){r:Rd}(h:r.b < T.length){Y:List Int}(h0:aM Y 0=false):r.b<=(r.a0 T Y).b/\(r.a0 T Y).b < T.length/\(r.a0 T Y).c=r.c+1:=by
 have a:=aN d h h0;have c:=pV a.lt (bX T r Y).e;exact⟨Qm a.ge c.1,c.2.1,by unfold Rd.a0;rw[c.2.2,a.c]⟩
theorem oE(i:eD T){r a c:Rd}(e:r.b<=a.b)(f:a.c=r.c+1)(h:sJ T a c){k:Int}(h0:aM [k] 0=false):sJ T r (c.h0 T k):=by
 have d:=aN i h.lt h0;exact⟨Qm (Qm e h.ge) d.ge,d.lt,by show(c.take T [k]).c - 1=_;rw[d.c,h.c,f];omega⟩
def bV(T:List aU)(S:Pr):Prop:=∀ r,r.b < T.length->sJ T r (S r).1
theorem aJ0(d:eD T){S:Pr}(c:bV T S){Z:List Int}(h0:aM Z 0=false):∀ n r v,r.b < T.length->sJ T r (jF T S Z n r v).1:=by
 intro n
 induction n with
 |zero=>intro r v h;exact sJ.refl h
 |succ n ih=>
  intro r v h;unfold jF
  split
  ·have a1:=aN d h h0;have a:=c _ a1.lt;exact(a1.t a).t (ih _ _ a.lt)
  ·exact sJ.refl h
theorem zK(c:eD T){S:Pr}(a:bV T S){Z:List Int}(h0:aM Z 0=false)(n:Nat):bV T (lX T S Z n):=fun r h=>(a r h).t (aJ0 c a h0 n _ _ (a r h).lt)
theorem aIZ(d:eD T){S:Pr}(c:bV T S){op:Int}(h0:aM [op] 0=false):∀ n r v,r.b < T.length->sJ T r (jD T S op n r v).1:=by
 intro n
 induction n with
 |zero=>intro r v h;exact sJ.refl h
 |succ n ih=>
  intro r v h;unfold jD
  split
  ·have a1:=fF d h h0;have a:=c _ a1.lt;exact(a1.t a).t (ih _ _ a.lt)
  ·exact sJ.refl h
theorem zJ(c:eD T){S:Pr}(a:bV T S){op:Int}(h0:aM [op] 0=false)(n:Nat):bV T (lS T S op n):=fun r h=>(a r h).t (aIZ c a h0 n _ _ (a r h).lt)
theorem uV(d:eD T){S:Pr}(c:bV T S):bV T (jL T S):=fun r h=>by
 have a1:=c r h;have a:=aN d a1.lt (show aM gX 0=false by decide);exact(a1.t a).t (c _ a.lt)
theorem uU(d:eD T){S:Pr}(c:bV T S):∀ n r,r.b < T.length->sJ T r (aZ T S n r).1:=by
 intro n
 induction n with
 |zero=>intro r h;exact sJ.refl h
 |succ n ih=>
  intro r h;unfold aZ
  split
  ·have a1:=fF d h (show aM [18] 0=false by decide);have a:=c _ a1.lt;exact(a1.t a).t (ih _ a.lt)
  ·exact sJ.refl h
theorem qU(c:eD T){S:Pr}(a:bV T S)(n:Nat):bV T (dV T S n):=fun r h=>(a r h).t (uU c a n _ (a r h).lt)
theorem nH(a:eD T){S:Pr}(c:bV T S):bV T (gL T S):=fun r h=>by
 obtain⟨d,e,f⟩:=cZ a h (show aM [16] 0=false by decide);exact oE a d f (c _ e) Ob
theorem aPJ(a:eD T){S:Pr}(f:bV T S)(n:Nat):bV T (jS T S n):=fun r h=>by
 obtain⟨c,d,e⟩:=cZ a h (show aM [12] 0=false by decide);unfold jS
 split
 ·exact oE a c e (sJ.refl d) Ob
 ·exact oE a c e (qU a f n _ d) Ob
theorem aLA(c:eD T){S:Pr}(a:bV T S)(n:Nat)(t:aU):bV T (gV T S n t):=fun r h=>by
 unfold gV
 split
 ·exact nH c a r h
 ·split
  ·exact aPJ c a n r h
  ·exact sJ.refl h
theorem aBG(c:eD T){S F:Pr}(f:bV T S)(i:bV T F)(n:Nat):bV T (iI T S F n):=fun r h=>by
 have a1:=aN c h (show aM bQ 0=false by decide);obtain⟨d1,d,e⟩:=pV a1.lt (bX T r bQ).e;unfold iI;dsimp only
 split
 ·exact a1
 ·split
  ·exact a1.t (oE c d1 e (f _ d) Ob)
  ·split
   ·have a:=i _ d;refine a1.t ⟨Qm d1 a.ge,a.lt,?_⟩;show(F _).1.c - 1=_;rw[a.c,e];omega
   ·exact a1.t (aLA c f n _ _ a1.lt)
theorem tU(a:eD T):bV T (jZ T):=fun r h=>by
 have a1:=aN a h (show aM [28,2,1] 0=false by decide);unfold jZ;dsimp only
 split
 ·exact a1.t (aN a a1.lt Ob)
 grind
theorem oC(a:eD T):bV T (iS T):=uV a (tU a)
theorem lU(c:eD T){S:Pr}(a:bV T S):bV T (gQ T S):=fun r h=>(a r h).t (aN c (a r h).lt Ob)
theorem tT(a:eD T){S:Pr}(c:bV T S)(t:aU)(q:Bool):bV T (tG T S t q):=fun r h=>by
 have a1:=aN a h (show aM [20] 0=false by decide);exact a1.t (lU a c _ a1.lt)
theorem zH(a:eD T){S:Pr}(d:bV T S)(t:aU):bV T (lF T S t):=fun r h=>by
 have a1:=nH a d r h;have c:=aN a a1.lt (show aM [20] 0=false by decide);exact(a1.t c).t (lU a d _ c.lt)
theorem aBH{S:Pr}(a:bV T S):∀ n r,r.b < T.length->sJ T r (cM T S n r).1:=by
 intro n
 induction n with
 |zero=>intro r h;exact sJ.refl h
 |succ n ih=>
  intro r h;unfold cM
  split
  ·exact sJ.refl h
  ·exact(a r h).t (ih _ (a r h).lt)
theorem aDK(a:eD T){S:Pr}(c:bV T S)(n:Nat):bV T (rU T S n):=fun r h=>by
 obtain⟨d,e,f⟩:=cZ a h (show aM [14] 0=false by decide);exact oE a d f (aBH c n _ e) Ob
theorem aGW(f:eD T){C B:Pr}(e:bV T C)(d:bV T B):bV T (ifP T C B):=fun r h=>by
 have a1:=e r h;have a:=d _ a1.lt;unfold ifP;dsimp only
 split
 ·have c:=fF f a.lt (show aM [8] 0=false by decide);exact((a1.t a).t c).t (d _ c.lt)
 ·exact a1.t a
theorem aFS(a:eD T){S C B:Pr}(c:bV T S)(d:bV T C)(f:bV T B):bV T (iQ T S C B):=fun r h=>by
 have a1:=aN a h (show aM aP 0=false by decide);unfold iQ;dsimp only
 split
 ·have e:=aN a a1.lt (show aM [1] 0=false by decide);exact(a1.t e).t (tT a c _ _ _ e.lt)
 split
 ·exact a1.t (aGW a d f _ a1.lt)
 split
 ·exact(a1.t (d _ a1.lt)).t (f _ (d _ a1.lt).lt)
 split
 ·exact a1.t (lU a c _ a1.lt)
 split
 ·exact a1.t (lU a c _ a1.lt)
 split
 ·exact a1.t (zH a c _ _ a1.lt)
 ·exact a1.t (tT a c _ _ _ a1.lt)
theorem gU(a:eD T):∀ n s,bV T (kQ T n s):=by
 intro n
 induction n with
 |zero=>
  intro s r h;have:=tW T.length r 1 0;exact⟨by show r.b<=(r.fail T.length 1 0).b;omega,by show(r.fail T.length 1 0).b < _;omega,this.2⟩
 |succ n ih=>
  intro s;show bV T (aGD T n (kQ T n) s);unfold aGD
  split
  ·grind[aBG]
  ·exact zK a (ih 0) Ob n
  ·exact zK a (ih 1) Ob n
  ·grind[uV]
  ·exact zJ a (ih 3) Ob n
  ·exact zJ a (ih 4) Ob n
  ·grind[aDK]
  grind[aFS]
def So(lo hi:Nat)(S:Pr):Prop:=∀ r,∃ a x y,(S r).2=mk a x y/\lo<=a.a/\a.a < hi
def SoL(S:Pr):Prop:=∀ r,(S r).2= .nil\/∃ a x,(S r).2=mk a x .nil/\a.a=20
theorem aO8{S:Pr}{Z:List Int}:∀ n r v,(∃ a x y,v=mk a x y/\0<=a.a/\a.a < 7)->∃ a x y,(jF T S Z n r v).2=mk a x y/\0<=a.a/\a.a < 7:=by
 intro n
 induction n with
 |zero=>intro r v h;exact h
 |succ n ih=>
  intro r v h;unfold jF
  split
  ·exact ih _ _ Qg
  ·exact h
theorem aI5{S:Pr}(a:So 0 7 S)(Z:List Int)(n:Nat):So 0 7 (lX T S Z n):=fun r=>aO8 n _ _ (a r)
theorem aO6{S:Pr}{op:Int}:∀ n r v,(∃ a x y,v=mk a x y/\7<=a.a/\a.a < 9)->∃ a x y,(jD T S op n r v).2=mk a x y/\7<=a.a/\a.a < 9:=by
 intro n
 induction n with
 |zero=>intro r v h;exact h
 |succ n ih=>
  intro r v h;unfold jD
  split
  ·exact ih _ _ Qg
  ·exact h
theorem aI4{S:Pr}(a:So 7 9 S)(op:Int)(n:Nat):So 7 9 (lS T S op n):=fun r=>aO6 n _ _ (a r)
theorem aKD(S:Pr):So 7 9 (jL T S):=fun r=>⟨_,_,_,rfl,Od,Od⟩
theorem aR9(E:Pr)(n:Nat)(t:aU):So 0 7 (gV T E n t):=fun r=>by
 unfold gV;split
 ·grind
 ·split<;>exact⟨_,_,_,rfl,Od,Od⟩
theorem aO7(E F:Pr)(n:Nat):So 0 7 (iI T E F n):=fun r=>by
 unfold iI;dsimp only
 split
 ·exact⟨_,_,_,rfl,Od,Od⟩
 split
 ·grind
 split
 ·grind
 ·exact aR9 E n _ _
theorem aUW:So 0 7 (jZ T):=fun r=>by
 unfold jZ;dsimp only
 split
 ·exact⟨_,_,_,rfl,Od,Od⟩
 split<;>exact⟨_,_,_,rfl,Od,Od⟩
theorem aZN(C B:Pr):So 9 15 (ifP T C B):=fun r=>by
 unfold ifP;dsimp only
 split<;>exact Qg
theorem aR6(E:Pr)(t:aU)(q:Bool):So 9 15 (tG T E t q):=fun r=>⟨_,_,_,rfl,Od,Od⟩
theorem aR5(E:Pr)(t:aU):So 9 15 (lF T E t):=fun r=>⟨_,_,_,rfl,Od,Od⟩
theorem aUV(E C B:Pr):So 9 15 (iQ T E C B):=fun r=>by
 unfold iQ;dsimp only
 split
 ·exact aR6 E _ _ _
 split
 ·exact aZN C B _
 split
 ·grind
 split
 ·grind
 split
 ·grind
 split
 ·exact aR5 E _ _
 ·exact aR6 E _ _ _
theorem aO5(S:Pr)(n:Nat):SoL (rU T S n):=fun r=>by
 unfold rU gW;dsimp only
 split
 ·exact .l rfl
 ·exact .r ⟨_,_,rfl,rfl⟩
theorem aI3:∀ n s,(s < 3->So 0 7 (kQ T n s))/\(3<=s->s < 6->So 7 9 (kQ T n s))/\(s=6->SoL (kQ T n s))/\(6 < s->So 9 15 (kQ T n s)):=by
 intro n
 induction n with
 |zero=>
  intro s;refine⟨fun h r=>?_,fun d c r=>?_,fun h r=>?_,fun h r=>?_⟩
  ·exact⟨{a:=0},.nil,.nil,if_pos h,Ob,Ob⟩
  ·exact⟨{a:=7,op:=21},_,_,by show(if s < 3 then _ else _)=_;rw[Oh,if_pos c],Ob,Ob⟩
  ·left;subst h;rfl
  ·exact⟨{a:=13},_,_,by show(if s < 3 then _ else _)=_;rw[Oh,Oh,Oh],Ob,Ob⟩
 |succ n ih=>
  intro s
  match s with
  |0=>exact⟨fun _=>aO7 _ _ _,Oa,Oa,Oa⟩
  |1=>exact⟨fun _=>aI5 ((ih 0).1 Oa) _ _,Oa,Oa,Oa⟩
  |2=>exact⟨fun _=>aI5 ((ih 1).1 Oa) _ _,Oa,Oa,Oa⟩
  |3=>exact⟨Oa,fun _ _=>aKD _,Oa,Oa⟩
  |4=>exact⟨Oa,fun _ _=>aI4 ((ih 3).2.1 Oa Oa) _ _,Oa,Oa⟩
  |5=>exact⟨Oa,fun _ _=>aI4 ((ih 4).2.1 Oa Oa) _ _,Oa,Oa⟩
  |6=>exact⟨Oa,Oa,fun _=>aO5 _ _,Oa⟩
  |s+7=>exact⟨Oa,Oa,Oa,fun _=>aUV _ _ _⟩
theorem eY{t:Tr}{a:Nd}{x y:Tr}(h:er t=mk a x y)(c:a.a < 20):∃ u p,aH t= .iface u (.pointer (some p)):=by
 cases t with
 |nil=>cases h
 |node b o a' l r=>
  simp only[er,mk,BT.node.injEq]at h;obtain⟨_,_,rfl,_⟩:=h;exact⟨iV a'.a,⟨b,0,none⟩,Oh⟩
end
end Go.Proofs.YtikffmloeifkpaaGreatDoor
