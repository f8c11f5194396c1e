/- Contracts. -/
import Derived.Test.YtikffmloeifkpaaGreatDoorR05
import Derived.Deep.Trees
namespace Go.Proofs.YtikffmloeifkpaaGreatDoor
open Go.RowKit Go.Lib Go.Deep
section
structure Nd where
 a:Nat
 op:Int:=0
 e:Int:=0
 h:ByteArray:=ByteArray.mk #[]
 b:Int:=0
 g:Int:=0
 flag:Bool:=false
 c:Int:=0
 f:Int:=0
abbrev Tr:=BT Nd
def mk(a:Nd)(l r:Tr):Tr:= .node 0 0 a l r
def er:Tr->Tr
 | .nil=> .nil
 | .node _ _ a l r=> .node 0 0 a (er l) (er r)
def aO:Tr->Nat
 | .nil=>0
 | .node _ _ _ _ r=>aO r+1
theorem aHY(t:Tr):aO (er t)=aO t:=by
 induction t with
 |nil=>rfl
 |node b o a l r _ ih=>simp only[er,aO,ih]
def bZ(n:Nat):TypeId:=
 if n=0 then 362 else if n=1 then 359 else if n=2 then 393 else if n=3 then 396 else if n=4 then 398 else if n=5 then 401
 else if n=6 then 403 else if n=7 then 253 else if n=8 then 407 else if n=9 then 326 else if n=10 then 329 else if n=11 then 332
 else if n=12 then 338 else if n=13 then 341 else if n=14 then 344 else if n=16 then 192 else 106
def bCH:Tr->Value
 | .nil=> .slice none 0 0
 | .node b o a l _=>if a.a=20 then .slice (some ⟨b,0,none⟩) (aO l) o else .iface (bZ a.a) (.pointer (some ⟨b,0,none⟩))
def cB:Tr->Value
 | .nil=> .pointer none
 | .node b _ _ _ _=> .pointer (some ⟨b,0,none⟩)
def At(w:World)(k:Nat)(t:TypeId)(Q:Array Value->Prop):Prop:=∃ cs,w.1[k]?=some (.cells cs t (0,0))/\Q cs
def Nam(cs:Array Value)(o:Nat)(a:Nd):Prop:=cs[o]?=some (.string a.h)/\cs[o+1]?=some (Qc a.b)/\cs[o+2]?=some (Qc a.c)
def aT6(cs:Array Value)(o:Nat):Tr->Prop
 | .nil=>False
 | .node b o' a l r=>if a.a=19 then Nam cs (o*3) a else if a.a=7 then cs[o]?=some (cB (.node b o' a l r))else cs[o]?=some (bCH (.node b o' a l r))
def jO(cs:Array Value):Nat->Tr->Prop
 |_,.nil=>True
 |o,.node _ _ _ l r=>aT6 cs o l/\jO cs (o+1) r
def bL(l:Tr):TypeId:=match l with
 | .node _ _ _ (.node _ _ a _ _) _=>if a.a=19 then 100 else if a.a=7 then 253 else if a.a < 7 then 269 else if a.a < 15 then 250 else 151
 |_=>0
def dH(n:Nat)(w:World)(b:Nat)(a:Nd)(l r:Tr):Prop:=match n with
 |0=>At w b 364 fun cs=>cs[0]?=some (.int .i64 a.g)
 |1=>At w b 361 fun cs=>Nam cs 0 a
 |2=>At w b 395 fun cs=>Nam cs 0 a/\cs[3]?=some (bCH l)/\cs[4]?=some (.int .i64 a.f)
 |3=>At w b 450 fun cs=>Nam cs 0 a/\cs[3]?=some (bCH l)/\cs[4]?=some (.int .i64 a.f)
 |4=>At w b 400 fun cs=>cs[0]?=some (bCH l)
 |5=>At w b 402 fun cs=>cs[0]?=some (bCH l)
 |6=>At w b 405 fun cs=>cs[0]?=some (.int .i64 a.op)/\cs[1]?=some (.int .i64 a.e)/\cs[2]?=some (bCH l)/\cs[3]?=some (bCH r)/\cs[4]?=some (.int .i64 a.f)
 |7=>At w b 271 fun cs=>cs[0]?=some (.int .i64 a.op)/\cs[1]?=some (.int .i64 a.e)/\cs[2]?=some (bCH l)/\cs[3]?=some (bCH r)
 |8=>At w b 409 fun cs=>cs[0]?=some (.int .i64 a.op)/\cs[1]?=some (bCH l)/\cs[2]?=some (bCH r)
 |9=>At w b 328 fun cs=>Nam cs 0 a/\cs[3]?=some (bCH l)/\cs[4]?=some (.bool a.flag)
 |10=>At w b 331 fun cs=>Nam cs 0 a/\cs[3]?=some (bCH l)/\cs[4]?=some (bCH r)/\cs[5]?=some (.int .i64 a.f)
 |11=>At w b 337 fun cs=>cs[0]?=some (bCH l)/\∃ x y z p q,r= .node x y z p q/\cs[1]?=some (bCH p)/\cs[2]?=some (bCH q)
 |12=>At w b 340 fun cs=>cs[0]?=some (bCH l)/\cs[1]?=some (bCH r)
 |13=>At w b 343 fun cs=>cs[0]?=some (bCH l)
 |14=>At w b 345 fun cs=>cs[0]?=some (bCH l)
 |16=>At w b 196 fun cs=>Nam cs 0 a/\cs[3]?=some (.int .i64 a.g)/\cs[4]?=some (.int .i64 a.e)
 |17=>At w b 105 fun cs=>Nam cs 0 a/\cs[3]?=some (bCH l)/\∃ x y z p q,r= .node x y z p q/\cs[4]?=some (bCH p)/\cs[5]?=some (bCH q)/\cs[6]?=some (.int .i64 a.g)
 |20=>l≠ .nil/\At w b (bL l) fun cs=>jO cs 0 l
 |_=>True
def Own(w:World)(b:Nat)(a:Nd)(l r:Tr):Prop:=dH a.a w b a l r
def IsT(w:World):Tr->Prop
 | .nil=>True
 | .node b _ a l r=>IsT w l/\IsT w r/\Own w b a l r
variable {T:List Tok} {g J b:Nat} {r:Rd} {w w':World}
theorem At.keep{k:Nat}{t:TypeId}{Q:Array Value->Prop}(h:At w k t Q){c:Array Value}(i:w.1[b]?=some (.cells c 145 (0,0)))(j:t≠145)(e:Ex b w w'):At w' k t Q:=by
 obtain⟨a,d,f⟩:=h;refine⟨a,(e.block k Qg ?_).t d,f⟩
 grind
theorem aJA(l:Tr):bL l≠145:=by
 unfold bL
 grind
theorem dH.keep{n k:Nat}{a:Nd}{l r:Tr}(h:dH n w k a l r){c:Array Value}(d:w.1[b]?=some (.cells c 145 (0,0)))(e:Ex b w w'):dH n w' k a l r:=by
 match n,h with
 |0,h=>exact At.keep h d Ob e
 |1,h=>exact At.keep h d Ob e
 |2,h=>exact At.keep h d Ob e
 |3,h=>exact At.keep h d Ob e
 |4,h=>exact At.keep h d Ob e
 |5,h=>exact At.keep h d Ob e
 |6,h=>exact At.keep h d Ob e
 |7,h=>exact At.keep h d Ob e
 |8,h=>exact At.keep h d Ob e
 |9,h=>exact At.keep h d Ob e
 |10,h=>exact At.keep h d Ob e
 |11,h=>exact At.keep h d Ob e
 |12,h=>exact At.keep h d Ob e
 |13,h=>exact At.keep h d Ob e
 |14,h=>exact At.keep h d Ob e
 |16,h=>exact At.keep h d Ob e
 |17,h=>exact At.keep h d Ob e
 |20,h=>exact⟨h.1,h.2.keep d (aJA _) e⟩
 |15,_|18,_|19,_=>trivial
 |n+21,_=>trivial
theorem Own.keep{k:Nat}{a:Nd}{l r:Tr}(h:Own w k a l r){c:Array Value}(d:w.1[b]?=some (.cells c 145 (0,0)))(e:Ex b w w'):Own w' k a l r:=dH.keep h d e
theorem IsT.keep{c:Array Value}(d:w.1[b]?=some (.cells c 145 (0,0)))(e:Ex b w w'):∀ t:Tr,IsT w t->IsT w' t:=by
 intro t
 induction t with
 |nil=>intro _;trivial
 |node k o a l r ihl ihr=>intro h;exact⟨ihl h.1,ihr h.2.1,h.2.2.keep d e⟩
theorem IsT.ex{t:Tr}(h:IsT w t)(c:RdW T g J b r w)(a:Ex b w w'):IsT w' t:=IsT.keep c.blk a t h
def gY(n:Nat):Prop:=n≠15/\n≠18/\n≠19
def aUI(H:Nat):Tr->Prop
 | .nil=>True
 | .node b _ a l r=>aUI H l/\aUI H r/\(gY a.a->H<=b)
def dV(k:Nat):Tr->Prop
 | .nil=>True
 | .node b _ a l r=>dV k l/\dV k r/\(gY a.a->b≠k)
theorem aUI.mono{H c:Nat}(d:c<=H):∀ {t:Tr},aUI H t->aUI c t:=by
 intro t
 induction t with
 |nil=>intro _;trivial
 |node b o a l r ihl ihr=>intro h;exact⟨ihl h.1,ihr h.2.1,fun p=>Qm d (h.2.2 p)⟩
theorem aUI.notIn{H k:Nat}(c:k < H):∀ {t:Tr},aUI H t->dV k t:=by
 intro t
 induction t with
 |nil=>intro _;trivial
 |node b o a l r ihl ihr=>intro h;exact⟨ihl h.1,ihr h.2.1,fun p=>Oi (h.2.2 p)⟩
theorem At.lt{w:World}{k:Nat}{t:TypeId}{Q:Array Value->Prop}(h:At w k t Q):k < w.1.size:=by obtain⟨a,c,_⟩:=h;grind
theorem At.same{k:Nat}{t:TypeId}{Q:Array Value->Prop}(h:At w k t Q)(d:w'.1[k]?=w.1[k]?):At w' k t Q:=by obtain⟨a,c,e⟩:=h;exact⟨a,d.t c,e⟩
theorem dH.lt{n k:Nat}{a:Nd}{l r:Tr}(h:dH n w k a l r)(c:gY n)(d:n < 21):k < w.1.size:=by
 match n,h with
 |0,h|1,h|2,h|3,h|4,h|5,h|6,h|7,h|8,h|9,h|10,h|11,h|12,h|13,h|14,h|16,h|17,h=>exact At.lt h
 |20,h=>exact At.lt h.2
 |15,_=>exact absurd rfl c.1
 |18,_=>exact absurd rfl c.2.1
 |19,_=>exact absurd rfl c.2.2
 |n+21,_=>omega
theorem dH.same{n k:Nat}{a:Nd}{l r:Tr}(h:dH n w k a l r)(c:gY n->w'.1[k]?=w.1[k]?):dH n w' k a l r:=by
 match n,h with
 |0,h|1,h|2,h|3,h|4,h|5,h|6,h|7,h|8,h|9,h|10,h|11,h|12,h|13,h|14,h|16,h|17,h=>exact At.same h (by grind[gY])
 |20,h=>exact⟨h.1,At.same h.2 (by grind[gY])⟩
 |15,_|18,_|19,_=>trivial
 |n+21,_=>trivial
def xJ:Tr->Prop
 | .nil=>True
 | .node _ _ a l r=>xJ l/\xJ r/\a.a < 21
theorem IsT.o:∀ {t:Tr},IsT w t->xJ t->∀ {k:Nat},w.1.size<=k->dV k t:=by
 intro t
 induction t with
 |nil=>intro _ _ _ _;trivial
 |node b o a l r ihl ihr=>intro h c k d;exact⟨ihl h.1 c.1 d,ihr h.2.1 c.2.1 d,fun p=>Oi (dH.lt h.2.2 p c.2.2)⟩
theorem IsT.but{k:Nat}(e:∀ i,i < w.1.size->i≠k->w'.1[i]?=w.1[i]?):∀ {t:Tr},IsT w t->xJ t->dV k t->IsT w' t:=by
 intro t
 induction t with
 |nil=>intro _ _ _;trivial
 |node b o a l r ihl ihr=>
  intro h d c;exact⟨ihl h.1 d.1 c.1,ihr h.2.1 d.2.1 c.2.1,dH.same h.2.2 (fun p=>e b (dH.lt h.2.2 p d.2.2) (c.2.2 p))⟩
structure New(H:Nat)(w:World)(t:Tr):Prop where
 is:IsT w t
 fresh:aUI H t
 known:xJ t
theorem New.ex{H:Nat}{t:Tr}(h:New H w t)(c:RdW T g J b r w)(a:Ex b w w'):New H w' t:=⟨h.is.ex c a,h.fresh,h.known⟩
theorem New.mono{H a:Nat}{t:Tr}(h:New H w t)(c:a<=H):New a w t:=⟨h.is,h.fresh.mono c,h.known⟩
theorem New.nil(H:Nat)(w:World):New H w .nil:=⟨trivial,trivial,trivial⟩
theorem New.node{H k o:Nat}{a:Nd}{l q:Tr}(c:New H w l)(d:New H w q)(e:gY a.a->H<=k)(f:a.a < 21)(h:Own w k a l q):New H w (.node k o a l q):=
 ⟨⟨c.is,d.is,h⟩,⟨c.fresh,d.fresh,e⟩,⟨c.known,d.known,f⟩⟩
theorem New.o{H:Nat}{t:Tr}(h:New H w t){k:Nat}(a:w.1.size<=k):dV k t:=h.is.o h.known a
theorem New.but{H k:Nat}{t:Tr}(h:New H w t)(c:∀ i,i < w.1.size->i≠k->w'.1[i]?=w.1[i]?)(a:dV k t):New H w' t:=⟨h.is.but c h.known a,h.fresh,h.known⟩
end
section
variable (T:List Tok)
abbrev Pr:=Rd->Rd × Tr
abbrev Prs:=Nat->Pr
def cons(e l:Tr):Tr:=mk {a:=15} e l
def bM3(l:Tr):Tr:=match l with
 | .nil=> .nil
 |l=>mk {a:=20} l .nil
def bCL(part:Pr)(G:List Int):Nat->Rd->Tr->Rd × Tr
 |0,r,v=>(r,v)
 |n+1,r,v=>if aN T r G then bCL part G n (part (r.take T G)).1 (mk {a:=6,op:=(cN T r G).d,e:=(cN T r G).e} v (part (r.take T G)).2)else(r,v)
def lA(part:Pr)(G:List Int)(n:Nat):Pr:=fun r=>bCL T part G n (part r).1 (part r).2
def bM8(part:Pr)(op:Int):Nat->Rd->Tr->Rd × Tr
 |0,r,v=>(r,v)
 |n+1,r,v=>if aN T r [op]then bM8 part op n (part (r.C T [op])).1 (mk {a:=8,op:=op} v (part (r.C T [op])).2)else(r,v)
def kK(part:Pr)(op:Int)(n:Nat):Pr:=fun r=>bM8 T part op n (part r).1 (part r).2
def iR:List Int:=[23,24,25,26,21,22]
def iJ(side:Pr):Pr:=fun r=>
 ((side ((side r).1.take T iR)).1,mk {a:=7,op:=(cN T (side r).1 iR).d,e:=(dD T r.b).e} (side r).2 (side ((side r).1.take T iR)).2)
def bEG(one:Pr):Nat->Rd->Rd × Tr
 |0,r=>(r,.nil)
 |n+1,r=>if aN T r [18]then((bEG one n (one (r.C T [18])).1).1,cons (one (r.C T [18])).2 (bEG one n (one (r.C T [18])).1).2)else(r,.nil)
def fX(one:Pr)(n:Nat):Pr:=fun r=>((bEG T one n (one r).1).1,bM3 (cons (one r).2 (bEG T one n (one r).1).2))
def vY(v:Int):Tr:=mk {a:=0,g:=v} .nil .nil
def mO(t:Tok):Tr:=mk {a:=1,h:=t.f,b:=t.e} .nil .nil
def gR(expr:Pr):Pr:=fun r=>((expr (r.B T [16])).1.H T 17,(expr (r.B T [16])).2)
def lB(expr:Pr)(n:Nat):Pr:=fun r=>
 if aN T (r.B T [12]) [13]then((r.B T [12]).H T 13,.nil)
 else((fX T expr n (r.B T [12])).1.H T 13,(fX T expr n (r.B T [12])).2)
def bM2(expr:Pr)(n:Nat)(t:Tok):Pr:=fun r=>
 if aN T r [16]then((gR T expr r).1,mk {a:=2,h:=t.f,b:=t.e} (gR T expr r).2 .nil)
 else if aN T r [12]then((lB T expr n r).1,mk {a:=3,h:=t.f,b:=t.e} (lB T expr n r).2 .nil)
 else(r,mO t)
def cA:List Int:=[2,1,12,28]
def gM(expr factor:Pr)(n:Nat):Pr:=fun r=>
 let t:=cN T r cA
 let r1:=r.take T cA
 if t.d=2 then(r1,vY t.a)
 else if t.d=12 then((expr (r1.M T.length t.e)).1.H T 13,mk {a:=4} (expr (r1.M T.length t.e)).2 .nil)
 else if t.d=28 then
  let q:=factor (r1.M T.length t.e)
  (⟨q.1.b,q.1.c - 1,q.1.a,q.1.e⟩,mk {a:=5} q.2 .nil)
 else bM2 T expr n t r1
def lG:Pr:=fun r=>
 let t:=cN T r [28,2,1]
 let r1:=r.take T [28,2,1]
 if t.d=28 then(r1.take T [2],vY (-(cN T r1 [2]).a))
 else if t.d=2 then(r1,vY t.a)
 else(r1,mO t)
def uK:Pr:=iJ T (lG T)
def fM(expr:Pr):Pr:=fun r=>((expr r).1.take T [19],(expr r).2)
def sQ(expr:Pr)(t:Tok)(isLet:Bool):Pr:=fun r=>
 ((fM T expr (r.take T [20])).1,mk {a:=9,h:=t.f,b:=t.e,flag:=isLet} (fM T expr (r.take T [20])).2 .nil)
def lK(expr:Pr)(t:Tok):Pr:=fun r=>
 let i:=gR T expr r
 let v:=fM T expr (i.1.take T [20])
 (v.1,mk {a:=10,h:=t.f,b:=t.e} i.2 v.2)
def cL(stmt:Pr):Nat->Rd->Rd × Tr
 |0,r=>(r,.nil)
 |n+1,r=>if aN T r [15,0]then(r,.nil)else((cL stmt n (stmt r).1).1,cons (stmt r).2 (cL stmt n (stmt r).1).2)
def qI(stmt:Pr)(n:Nat):Pr:=fun r=>((cL T stmt n (r.B T [14])).1.H T 15,bM3 (cL T stmt n (r.B T [14])).2)
def ifP(cond block:Pr):Pr:=fun r=>
 let c:=cond r
 let t:=block c.1
 if aN T t.1 [8]then((block (t.1.C T [8])).1,mk {a:=11} c.2 (mk {a:=18} t.2 (block (t.1.C T [8])).2))
 else(t.1,mk {a:=11} c.2 (mk {a:=18} t.2 .nil))
def aR:List Int:=[6,1,7,9,10,11]
def eL(expr cond block:Pr):Pr:=fun r=>
 let t:=cN T r aR
 let r1:=r.take T aR
 if t.d=6 then sQ T expr (cN T r1 [1]) true (r1.take T [1])
 else if t.d=7 then ifP T cond block r1
 else if t.d=9 then((block (cond r1).1).1,mk {a:=12} (cond r1).2 (block (cond r1).1).2)
 else if t.d=10 then((fM T expr r1).1,mk {a:=13} (fM T expr r1).2 .nil)
 else if t.d=11 then((fM T expr r1).1,mk {a:=14} (fM T expr r1).2 .nil)
 else if aN T r1 [16]then lK T expr t r1
 else sQ T expr t false r1
def aIX(n:Nat)(rec:Prs):Prs:=fun s=>match s with
 |0=>gM T (rec 2) (rec 0) n
 |1=>lA T (rec 0) [29,30,31] n
 |2=>lA T (rec 1) [27,28] n
 |3=>iJ T (rec 2)
 |4=>kK T (rec 3) 32 n
 |5=>kK T (rec 4) 33 n
 |6=>qI T (rec 7) n
 |_=>eL T (rec 2) (rec 5) (rec 6)
def iH:Nat->Prs
 |0=>fun s r=>(r.fail T.length 1 0,if s < 3 then mk {a:=0} .nil .nil else if s < 6 then mk {a:=7,op:=21} (mk {a:=0} .nil .nil) (mk {a:=0} .nil .nil)else if s=6 then .nil else mk {a:=13} (mk {a:=0} .nil .nil) .nil)
 |n+1=>aIX T n (iH n)
def nK:Pr:=fun r=>(r.take T [1],mk {a:=19,h:=(cN T r [1]).f,b:=(cN T r [1]).e} .nil .nil)
def fQ:Pr:=fun r=>
 let t:=cN T r [1]
 let r1:=r.take T [1]
 let n:=cN T r1 [2]
 let r2:=r1.take T [2]
 (r2.take T [19],mk {a:=16,h:=t.f,b:=t.e,g:=n.a,e:=n.e} .nil .nil)
def cZ(block:Pr)(n:Nat):Pr:=fun r=>
 let t:=cN T r [1]
 let r1:=(r.take T [1]).B T [12]
 let ps:=if aN T r1 [1]then fX T (nK T) n r1 else(r1,.nil)
 let r2:=ps.1.H T 13
 let ws:=if aN T r2 [5]then fX T (uK T) n (r2.C T [5])else(r2,.nil)
 let bd:=block ws.1
 (bd.1,mk {a:=17,h:=t.f,b:=t.e} ps.2 (mk {a:=18} ws.2 bd.2))
def aJ(block:Pr)(m:Nat):Nat->Rd->Rd × Tr
 |0,r=>(r,.nil)
 |n+1,r=>
  if aN T r [0]then(r,.nil)
  else
   let t:=cN T r [3,4]
   let r1:=r.take T [3,4]
   if t.d=3 then((aJ block m n (fQ T r1).1).1,cons (fQ T r1).2 (aJ block m n (fQ T r1).1).2)
   else if t.d=4 then((aJ block m n (cZ T block m r1).1).1,cons (cZ T block m r1).2 (aJ block m n (cZ T block m r1).1).2)
   else aJ block m n r1
def rd0:Rd:=⟨0,0,0,0⟩
def bY:Nat:=T.length*16+16
def bP:Rd × Tr:=((aJ T (iH T (bY T) 6) (bY T) (bY T) rd0).1,bM3 (aJ T (iH T (bY T) 6) (bY T) (bY T) rd0).2)
end
section
variable {T:List Tok}
def cY(T:List Tok):Prop:=(T.getD (T.length - 1) aD6).d=0
structure Adv(T:List Tok)(r r':Rd):Prop where
 ge:r.b<=r'.b
 lt:r'.b < T.length
 c:r'.c=r.c
theorem Adv.refl{r:Rd}(h:r.b < T.length):Adv T r r:=⟨Oa,h,rfl⟩
theorem Adv.t{a b c:Rd}(h:Adv T a b)(k:Adv T b c):Adv T a c:=⟨Qm h.ge k.ge,k.lt,k.c.t h.c⟩
theorem aAP(f:cY T){r:Rd}(h:r.b < T.length){O:List Int}(a:aN T r O=true)(d:aQ O 0=false):r.b+1 < T.length:=by
 rcases Qt (r.b+1) T.length with c|c
 ·exact c
 ·exfalso;have e:r.b=T.length - 1:=Oa
  unfold aN dD at a;rw[e,f,d]at a;cases a
theorem lP(n:Nat)(r:Rd)(c p:Int):(r.fail n c p).b=n - 1/\(r.fail n c p).c=r.c:=by grind[Rd.fail]
theorem aP(d:cY T){r:Rd}(h:r.b < T.length){O:List Int}(c:aQ O 0=false):Adv T r (r.take T O):=by
 unfold Rd.take
 by_cases a:aN T r O=true
 ·rw[if_pos a];exact⟨by show r.b<=r.b+1;omega,aAP d h a c,rfl⟩
 ·rw[if_neg a];have:=lP T.length r 2 (dD T r.b).e;exact⟨Oa,Oa,this.2⟩
theorem dU(d:cY T){r:Rd}(h:r.b < T.length){O:List Int}(c:aQ O 0=false):Adv T r (r.C T O):=by
 unfold Rd.C
 by_cases a:aN T r O=true
 ·rw[if_pos a];exact⟨by show r.b<=r.b+1;omega,aAP d h a c,rfl⟩
 grind[Adv.refl]
theorem mD{r:Rd}(h:r.b < T.length)(p:Int):r.b<=(r.M T.length p).b/\(r.M T.length p).b < T.length/\(r.M T.length p).c=r.c+1:=by
 unfold Rd.M
 split
 ·grind[lP]
 simp[*]
theorem dF(e:cY T){r:Rd}(h:r.b < T.length){O:List Int}(d:aQ O 0=false):r.b<=(r.B T O).b/\(r.B T O).b < T.length/\(r.B T O).c=r.c+1:=by
 have a:=aP e h d;have c:=mD a.lt (cN T r O).e;exact⟨Qm a.ge c.1,c.2.1,by unfold Rd.B;rw[c.2.2,a.c]⟩
theorem lC(j:cY T){r a c:Rd}(f:r.b<=a.b)(i:a.c=r.c+1)(h:Adv T a c){k:Int}(e:aQ [k] 0=false):Adv T r (c.H T k):=by
 have d:=aP j h.lt e;exact⟨Qm (Qm f h.ge) d.ge,d.lt,by show(c.take T [k]).c - 1=_;rw[d.c,h.c,i];omega⟩
def aZ(T:List Tok)(S:Pr):Prop:=∀ r,r.b < T.length->Adv T r (S r).1
theorem aEH(f:cY T){S:Pr}(e:aZ T S){G:List Int}(d:aQ G 0=false):∀ n r v,r.b < T.length->Adv T r (bCL T S G n r v).1:=by
 intro n
 induction n with
 |zero=>intro r v h;exact Adv.refl h
 |succ n ih=>
  intro r v h;unfold bCL
  split
  ·have a:=aP f h d;have c:=e _ a.lt;exact(a.t c).t (ih _ _ c.lt)
  ·exact Adv.refl h
theorem zL(d:cY T){S:Pr}(a:aZ T S){G:List Int}(c:aQ G 0=false)(n:Nat):aZ T (lA T S G n):=fun r h=>(a r h).t (aEH d a c n _ _ (a r h).lt)
theorem aEF(f:cY T){S:Pr}(e:aZ T S){op:Int}(d:aQ [op] 0=false):∀ n r v,r.b < T.length->Adv T r (bM8 T S op n r v).1:=by
 intro n
 induction n with
 |zero=>intro r v h;exact Adv.refl h
 |succ n ih=>
  intro r v h;unfold bM8
  split
  ·have a:=dU f h d;have c:=e _ a.lt;exact(a.t c).t (ih _ _ c.lt)
  ·exact Adv.refl h
theorem zJ(d:cY T){S:Pr}(a:aZ T S){op:Int}(c:aQ [op] 0=false)(n:Nat):aZ T (kK T S op n):=fun r h=>(a r h).t (aEF d a c n _ _ (a r h).lt)
theorem uW(e:cY T){S:Pr}(d:aZ T S):aZ T (iJ T S):=fun r h=>by
 have a:=d r h;have c:=aP e a.lt (show aQ iR 0=false by decide);exact(a.t c).t (d _ c.lt)
theorem zK(e:cY T){S:Pr}(d:aZ T S):∀ n r,r.b < T.length->Adv T r (bEG T S n r).1:=by
 intro n
 induction n with
 |zero=>intro r h;exact Adv.refl h
 |succ n ih=>
  intro r h;unfold bEG
  split
  ·have a:=dU e h (show aQ [18] 0=false by decide);have c:=d _ a.lt;exact(a.t c).t (ih _ c.lt)
  ·exact Adv.refl h
theorem rY(c:cY T){S:Pr}(a:aZ T S)(n:Nat):aZ T (fX T S n):=fun r h=>(a r h).t (zK c a n _ (a r h).lt)
theorem lN(a:cY T){S:Pr}(c:aZ T S):aZ T (gR T S):=fun r h=>by
 obtain⟨d,e,f⟩:=dF a h (show aQ [16] 0=false by decide);exact lC a d f (c _ e) Ob
theorem aK8(a:cY T){S:Pr}(f:aZ T S)(n:Nat):aZ T (lB T S n):=fun r h=>by
 obtain⟨c,d,e⟩:=dF a h (show aQ [12] 0=false by decide);unfold lB
 split
 ·exact lC a c e (Adv.refl d) Ob
 ·exact lC a c e (rY a f n _ d) Ob
theorem aG9(c:cY T){S:Pr}(a:aZ T S)(n:Nat)(t:Tok):aZ T (bM2 T S n t):=fun r h=>by
 unfold bM2
 split
 ·exact lN c a r h
 ·split
  ·exact aK8 c a n r h
  ·exact Adv.refl h
theorem aEG(d:cY T){S F:Pr}(j:aZ T S)(k:aZ T F)(n:Nat):aZ T (gM T S F n):=fun r h=>by
 have a:=aP d h (show aQ cA 0=false by decide);obtain⟨e,f,i⟩:=mD a.lt (cN T r cA).e;unfold gM;dsimp only
 split
 ·exact a
 ·split
  ·exact a.t (lC d e i (j _ f) Ob)
  ·split
   ·have c:=k _ f;refine a.t ⟨Qm e c.ge,c.lt,?_⟩;show(F _).1.c - 1=_;rw[c.c,i];omega
   ·exact a.t (aG9 d j n _ _ a.lt)
theorem wH(c:cY T):aZ T (lG T):=fun r h=>by
 have a:=aP c h (show aQ [28,2,1] 0=false by decide);unfold lG;dsimp only
 split
 ·exact a.t (aP c a.lt Ob)
 grind
theorem uV(a:cY T):aZ T (uK T):=uW a (wH a)
theorem jH(c:cY T){S:Pr}(a:aZ T S):aZ T (fM T S):=fun r h=>(a r h).t (aP c (a r h).lt Ob)
theorem pL(c:cY T){S:Pr}(d:aZ T S)(t:Tok)(q:Bool):aZ T (sQ T S t q):=fun r h=>by
 have a:=aP c h (show aQ [20] 0=false by decide);exact a.t (jH c d _ a.lt)
theorem tN(a:cY T){S:Pr}(e:aZ T S)(t:Tok):aZ T (lK T S t):=fun r h=>by
 have c:=lN a e r h;have d:=aP a c.lt (show aQ [20] 0=false by decide);exact(c.t d).t (jH a e _ d.lt)
theorem xC{S:Pr}(a:aZ T S):∀ n r,r.b < T.length->Adv T r (cL T S n r).1:=by
 intro n
 induction n with
 |zero=>intro r h;exact Adv.refl h
 |succ n ih=>
  intro r h;unfold cL
  split
  ·exact Adv.refl h
  ·exact(a r h).t (ih _ (a r h).lt)
theorem aGA(a:cY T){S:Pr}(c:aZ T S)(n:Nat):aZ T (qI T S n):=fun r h=>by
 obtain⟨d,e,f⟩:=dF a h (show aQ [14] 0=false by decide);exact lC a d f (xC c n _ e) Ob
theorem aC9(i:cY T){C B:Pr}(f:aZ T C)(e:aZ T B):aZ T (ifP T C B):=fun r h=>by
 have a:=f r h;have c:=e _ a.lt;unfold ifP;dsimp only
 split
 ·have d:=dU i c.lt (show aQ [8] 0=false by decide);exact((a.t c).t d).t (e _ d.lt)
 ·exact a.t c
theorem aB3(c:cY T){S C B:Pr}(d:aZ T S)(e:aZ T C)(i:aZ T B):aZ T (eL T S C B):=fun r h=>by
 have a:=aP c h (show aQ aR 0=false by decide);unfold eL;dsimp only
 split
 ·have f:=aP c a.lt (show aQ [1] 0=false by decide);exact(a.t f).t (pL c d _ _ _ f.lt)
 split
 ·exact a.t (aC9 c e i _ a.lt)
 split
 ·exact(a.t (e _ a.lt)).t (i _ (e _ a.lt).lt)
 split
 ·exact a.t (jH c d _ a.lt)
 split
 ·exact a.t (jH c d _ a.lt)
 split
 ·exact a.t (tN c d _ _ a.lt)
 ·exact a.t (pL c d _ _ _ a.lt)
theorem bM1(a:cY T):∀ n s,aZ T (iH T n s):=by
 intro n
 induction n with
 |zero=>
  intro s r h;have:=lP T.length r 1 0;exact⟨by show r.b<=(r.fail T.length 1 0).b;omega,by show(r.fail T.length 1 0).b < _;omega,this.2⟩
 |succ n ih=>
  intro s;show aZ T (aIX T n (iH T n) s);unfold aIX
  split
  ·grind[aEG]
  ·exact zL a (ih 0) Ob n
  ·exact zL a (ih 1) Ob n
  ·grind[uW]
  ·exact zJ a (ih 3) Ob n
  ·exact zJ a (ih 4) Ob n
  ·grind[aGA]
  grind[aB3]
def So(lo hi:Nat)(S:Pr):Prop:=∀ r,∃ a x y,(S r).2=mk a x y/\lo<=a.a/\a.a < hi
def SoL(S:Pr):Prop:=∀ r,(S r).2= .nil\/∃ a x,(S r).2=mk a x .nil/\a.a=20
theorem aJ2{S:Pr}{G:List Int}:∀ n r v,(∃ a x y,v=mk a x y/\0<=a.a/\a.a < 7)->∃ a x y,(bCL T S G n r v).2=mk a x y/\0<=a.a/\a.a < 7:=by
 intro n
 induction n with
 |zero=>intro r v h;exact h
 |succ n ih=>
  intro r v h;unfold bCL
  split
  ·exact ih _ _ Qg
  ·exact h
theorem aDK{S:Pr}(a:So 0 7 S)(G:List Int)(n:Nat):So 0 7 (lA T S G n):=fun r=>aJ2 n _ _ (a r)
theorem aJ0{S:Pr}{op:Int}:∀ n r v,(∃ a x y,v=mk a x y/\7<=a.a/\a.a < 9)->∃ a x y,(bM8 T S op n r v).2=mk a x y/\7<=a.a/\a.a < 9:=by
 intro n
 induction n with
 |zero=>intro r v h;exact h
 |succ n ih=>
  intro r v h;unfold bM8
  split
  ·exact ih _ _ Qg
  ·exact h
theorem aDJ{S:Pr}(a:So 7 9 S)(op:Int)(n:Nat):So 7 9 (kK T S op n):=fun r=>aJ0 n _ _ (a r)
theorem aFP(S:Pr):So 7 9 (iJ T S):=fun r=>⟨_,_,_,rfl,Od,Od⟩
theorem aMD(E:Pr)(n:Nat)(t:Tok):So 0 7 (bM2 T E n t):=fun r=>by
 unfold bM2;split
 ·grind
 ·split<;>exact⟨_,_,_,rfl,Od,Od⟩
theorem aJ1(E F:Pr)(n:Nat):So 0 7 (gM T E F n):=fun r=>by
 unfold gM;dsimp only
 split
 ·exact⟨_,_,_,rfl,Od,Od⟩
 split
 ·grind
 split
 ·grind
 ·exact aMD E n _ _
theorem aPX:So 0 7 (lG T):=fun r=>by
 unfold lG;dsimp only
 split
 ·exact⟨_,_,_,rfl,Od,Od⟩
 split<;>exact⟨_,_,_,rfl,Od,Od⟩
theorem aTQ(C B:Pr):So 9 15 (ifP T C B):=fun r=>by
 unfold ifP;dsimp only
 split<;>exact Qg
theorem aMA(E:Pr)(t:Tok)(q:Bool):So 9 15 (sQ T E t q):=fun r=>⟨_,_,_,rfl,Od,Od⟩
theorem aM9(E:Pr)(t:Tok):So 9 15 (lK T E t):=fun r=>⟨_,_,_,rfl,Od,Od⟩
theorem aPW(E C B:Pr):So 9 15 (eL T E C B):=fun r=>by
 unfold eL;dsimp only
 split
 ·exact aMA E _ _ _
 split
 ·exact aTQ C B _
 split
 ·grind
 split
 ·grind
 split
 ·grind
 split
 ·exact aM9 E _ _
 ·exact aMA E _ _ _
theorem aIZ(S:Pr)(n:Nat):SoL (qI T S n):=fun r=>by
 unfold qI bM3;dsimp only
 split
 ·exact .l rfl
 ·exact .r ⟨_,_,rfl,rfl⟩
theorem aDI:∀ n s,(s < 3->So 0 7 (iH T n s))/\(3<=s->s < 6->So 7 9 (iH T n s))/\(s=6->SoL (iH T n s))/\(6 < s->So 9 15 (iH T n s)):=by
 intro n
 induction n with
 |zero=>
  intro s;refine⟨fun h r=>?_,fun d c r=>?_,fun h r=>?_,fun h r=>?_⟩
  ·exact⟨{a:=0},.nil,.nil,if_pos h,Ob,Ob⟩
  ·exact⟨{a:=7,op:=21},_,_,by show(if s < 3 then _ else _)=_;rw[Oh,if_pos c],Ob,Ob⟩
  ·left;subst h;rfl
  ·exact⟨{a:=13},_,_,by show(if s < 3 then _ else _)=_;rw[Oh,Oh,Oh],Ob,Ob⟩
 |succ n ih=>
  intro s
  match s with
  |0=>exact⟨fun _=>aJ1 _ _ _,Oa,Oa,Oa⟩
  |1=>exact⟨fun _=>aDK ((ih 0).1 Oa) _ _,Oa,Oa,Oa⟩
  |2=>exact⟨fun _=>aDK ((ih 1).1 Oa) _ _,Oa,Oa,Oa⟩
  |3=>exact⟨Oa,fun _ _=>aFP _,Oa,Oa⟩
  |4=>exact⟨Oa,fun _ _=>aDJ ((ih 3).2.1 Oa Oa) _ _,Oa,Oa⟩
  |5=>exact⟨Oa,fun _ _=>aDJ ((ih 4).2.1 Oa Oa) _ _,Oa,Oa⟩
  |6=>exact⟨Oa,Oa,fun _=>aIZ _ _,Oa⟩
  |s+7=>exact⟨Oa,Oa,Oa,fun _=>aPW _ _ _⟩
theorem aUJ{t:Tr}{a:Nd}{x y:Tr}(h:er t=mk a x y)(c:a.a < 20):∃ u p,bCH t= .iface u (.pointer (some p)):=by
 cases t with
 |nil=>cases h
 |node b o a' l r=>
  simp only[er,mk,BT.node.injEq]at h;obtain⟨_,_,rfl,_⟩:=h;exact⟨bZ a'.a,⟨b,0,none⟩,Oh⟩
end
end Go.Proofs.YtikffmloeifkpaaGreatDoor
