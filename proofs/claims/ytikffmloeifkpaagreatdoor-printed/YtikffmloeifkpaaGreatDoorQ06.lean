/- Contracts. -/
import Derived.Test.YtikffmloeifkpaaGreatDoorQ05
import Derived.Deep.Trees
namespace Go.Proofs.YtikffmloeifkpaaGreatDoor
section
open Go.RowKit Go.Lib Go.Deep
structure Nd where
 tag:Nat
 op:Int:=0
 pos:Int:=0
 name:ByteArray:=ByteArray.mk #[]
 npos:Int:=0
 val:Int:=0
 flag:Bool:=false
 which:Int:=0
 site:Int:=0
abbrev Tr:=BT Nd
def mk(a:Nd)(l r:Tr):Tr:= .node 0 0 a l r
def er:Tr->Tr
 | .nil=> .nil
 | .node _ _ a l r=> .node 0 0 a (er l) (er r)
def aO:Tr->Nat
 | .nil=>0
 | .node _ _ _ _ r=>aO r+1
theorem aHY(t:Tr):aO (er t)=aO t:=by
 induction t with
 |nil=>rfl
 |node b o a l r _ ih=>simp only[er,aO,ih]
def bZ(n:Nat):TypeId:=
 if n=0 then 362 else if n=1 then 359 else if n=2 then 393 else if n=3 then 396 else if n=4 then 398 else if n=5 then 401
 else if n=6 then 403 else if n=7 then 253 else if n=8 then 407 else if n=9 then 326 else if n=10 then 329 else if n=11 then 332
 else if n=12 then 338 else if n=13 then 341 else if n=14 then 344 else if n=16 then 192 else 106
def bCH:Tr->Value
 | .nil=> .slice none 0 0
 | .node b o a l _=>if a.tag=20 then .slice (some ⟨b,0,none⟩) (aO l) o else .iface (bZ a.tag) (.pointer (some ⟨b,0,none⟩))
def cB:Tr->Value
 | .nil=> .pointer none
 | .node b _ _ _ _=> .pointer (some ⟨b,0,none⟩)
def At(w:World)(k:Nat)(t:TypeId)(Q:Array Value->Prop):Prop:=∃ cs,w.heap[k]?=some (.cells cs t (0,0))/\Q cs
def Nam(cs:Array Value)(o:Nat)(a:Nd):Prop:=cs[o]?=some (.string a.name)/\cs[o+1]?=some (.int .i64 a.npos)/\cs[o+2]?=some (.int .i64 a.which)
def aT6(cs:Array Value)(o:Nat):Tr->Prop
 | .nil=>False
 | .node b o' a l r=>if a.tag=19 then Nam cs (o*3) a else if a.tag=7 then cs[o]?=some (cB (.node b o' a l r))else cs[o]?=some (bCH (.node b o' a l r))
def jO(cs:Array Value):Nat->Tr->Prop
 |_,.nil=>True
 |o,.node _ _ _ l r=>aT6 cs o l/\jO cs (o+1) r
def bL(l:Tr):TypeId:=match l with
 | .node _ _ _ (.node _ _ a _ _) _=>if a.tag=19 then 100 else if a.tag=7 then 253 else if a.tag < 7 then 269 else if a.tag < 15 then 250 else 151
 |_=>0
def dH(n:Nat)(w:World)(b:Nat)(a:Nd)(l r:Tr):Prop:=match n with
 |0=>At w b 364 fun cs=>cs[0]?=some (.int .i64 a.val)
 |1=>At w b 361 fun cs=>Nam cs 0 a
 |2=>At w b 395 fun cs=>Nam cs 0 a/\cs[3]?=some (bCH l)/\cs[4]?=some (.int .i64 a.site)
 |3=>At w b 450 fun cs=>Nam cs 0 a/\cs[3]?=some (bCH l)/\cs[4]?=some (.int .i64 a.site)
 |4=>At w b 400 fun cs=>cs[0]?=some (bCH l)
 |5=>At w b 402 fun cs=>cs[0]?=some (bCH l)
 |6=>At w b 405 fun cs=>cs[0]?=some (.int .i64 a.op)/\cs[1]?=some (.int .i64 a.pos)/\cs[2]?=some (bCH l)/\cs[3]?=some (bCH r)/\cs[4]?=some (.int .i64 a.site)
 |7=>At w b 271 fun cs=>cs[0]?=some (.int .i64 a.op)/\cs[1]?=some (.int .i64 a.pos)/\cs[2]?=some (bCH l)/\cs[3]?=some (bCH r)
 |8=>At w b 409 fun cs=>cs[0]?=some (.int .i64 a.op)/\cs[1]?=some (bCH l)/\cs[2]?=some (bCH r)
 |9=>At w b 328 fun cs=>Nam cs 0 a/\cs[3]?=some (bCH l)/\cs[4]?=some (.bool a.flag)
 |10=>At w b 331 fun cs=>Nam cs 0 a/\cs[3]?=some (bCH l)/\cs[4]?=some (bCH r)/\cs[5]?=some (.int .i64 a.site)
 |11=>At w b 337 fun cs=>cs[0]?=some (bCH l)/\∃ x y z p q,r= .node x y z p q/\cs[1]?=some (bCH p)/\cs[2]?=some (bCH q)
 |12=>At w b 340 fun cs=>cs[0]?=some (bCH l)/\cs[1]?=some (bCH r)
 |13=>At w b 343 fun cs=>cs[0]?=some (bCH l)
 |14=>At w b 345 fun cs=>cs[0]?=some (bCH l)
 |16=>At w b 196 fun cs=>Nam cs 0 a/\cs[3]?=some (.int .i64 a.val)/\cs[4]?=some (.int .i64 a.pos)
 |17=>At w b 105 fun cs=>Nam cs 0 a/\cs[3]?=some (bCH l)/\∃ x y z p q,r= .node x y z p q/\cs[4]?=some (bCH p)/\cs[5]?=some (bCH q)/\cs[6]?=some (.int .i64 a.val)
 |20=>l≠ .nil/\At w b (bL l) fun cs=>jO cs 0 l
 |_=>True
def Own(w:World)(b:Nat)(a:Nd)(l r:Tr):Prop:=dH a.tag w b a l r
def IsT(w:World):Tr->Prop
 | .nil=>True
 | .node b _ a l r=>IsT w l/\IsT w r/\Own w b a l r
variable {T:List Tok} {g cap b:Nat} {r:Rd} {w w':World}
theorem At.keep{k:Nat}{t:TypeId}{Q:Array Value->Prop}(h:At w k t Q){c:Array Value}(hb:w.heap[b]?=some (.cells c 145 (0,0)))(ht:t≠145)(he:Ex b w w'):At w' k t Q:=by
 obtain⟨cs,hc,hq⟩:=h;refine⟨cs,(he.block k (Oo hc) ?_).trans hc,hq⟩;intro e;rw[e,hb]at hc;simp only[Option.some.injEq,Obj.cells.injEq]at hc;exact ht hc.2.1.symm
theorem aJA(l:Tr):bL l≠145:=by
 unfold bL
 repeat' split
 all_goals decide
theorem dH.keep{n k:Nat}{a:Nd}{l r:Tr}(h:dH n w k a l r){c:Array Value}(hb:w.heap[b]?=some (.cells c 145 (0,0)))(he:Ex b w w'):dH n w' k a l r:=by
 match n,h with
 |0,h=>exact At.keep h hb Ob he
 |1,h=>exact At.keep h hb Ob he
 |2,h=>exact At.keep h hb Ob he
 |3,h=>exact At.keep h hb Ob he
 |4,h=>exact At.keep h hb Ob he
 |5,h=>exact At.keep h hb Ob he
 |6,h=>exact At.keep h hb Ob he
 |7,h=>exact At.keep h hb Ob he
 |8,h=>exact At.keep h hb Ob he
 |9,h=>exact At.keep h hb Ob he
 |10,h=>exact At.keep h hb Ob he
 |11,h=>exact At.keep h hb Ob he
 |12,h=>exact At.keep h hb Ob he
 |13,h=>exact At.keep h hb Ob he
 |14,h=>exact At.keep h hb Ob he
 |16,h=>exact At.keep h hb Ob he
 |17,h=>exact At.keep h hb Ob he
 |20,h=>exact⟨h.1,h.2.keep hb (aJA _) he⟩
 |15,_|18,_|19,_=>trivial
 |n+21,_=>trivial
theorem Own.keep{k:Nat}{a:Nd}{l r:Tr}(h:Own w k a l r){c:Array Value}(hb:w.heap[b]?=some (.cells c 145 (0,0)))(he:Ex b w w'):Own w' k a l r:=dH.keep h hb he
theorem IsT.keep{c:Array Value}(hb:w.heap[b]?=some (.cells c 145 (0,0)))(he:Ex b w w'):∀ t:Tr,IsT w t->IsT w' t:=by
 intro t
 induction t with
 |nil=>intro _;trivial
 |node k o a l r ihl ihr=>intro h;exact⟨ihl h.1,ihr h.2.1,h.2.2.keep hb he⟩
theorem IsT.ex{t:Tr}(h:IsT w t)(hr:RdW T g cap b r w)(he:Ex b w w'):IsT w' t:=IsT.keep hr.blk he t h
def gY(n:Nat):Prop:=n≠15/\n≠18/\n≠19
def aUI(H:Nat):Tr->Prop
 | .nil=>True
 | .node b _ a l r=>aUI H l/\aUI H r/\(gY a.tag->H<=b)
def dV(k:Nat):Tr->Prop
 | .nil=>True
 | .node b _ a l r=>dV k l/\dV k r/\(gY a.tag->b≠k)
theorem aUI.mono{H H':Nat}(hH:H'<=H):∀ {t:Tr},aUI H t->aUI H' t:=by
 intro t
 induction t with
 |nil=>intro _;trivial
 |node b o a l r ihl ihr=>intro h;exact⟨ihl h.1,ihr h.2.1,fun p=>Qd hH (h.2.2 p)⟩
theorem aUI.notIn{H k:Nat}(hk:k < H):∀ {t:Tr},aUI H t->dV k t:=by
 intro t
 induction t with
 |nil=>intro _;trivial
 |node b o a l r ihl ihr=>intro h;exact⟨ihl h.1,ihr h.2.1,fun p=>Oi (h.2.2 p)⟩
theorem At.lt{w:World}{k:Nat}{t:TypeId}{Q:Array Value->Prop}(h:At w k t Q):k < w.heap.size:=by obtain⟨cs,hc,_⟩:=h;exact(Oo hc)
theorem At.same{k:Nat}{t:TypeId}{Q:Array Value->Prop}(h:At w k t Q)(he:w'.heap[k]?=w.heap[k]?):At w' k t Q:=by obtain⟨cs,hc,hq⟩:=h;exact⟨cs,he.trans hc,hq⟩
theorem dH.lt{n k:Nat}{a:Nd}{l r:Tr}(h:dH n w k a l r)(hp:gY n)(hn:n < 21):k < w.heap.size:=by
 match n,h with
 |0,h|1,h|2,h|3,h|4,h|5,h|6,h|7,h|8,h|9,h|10,h|11,h|12,h|13,h|14,h|16,h|17,h=>exact At.lt h
 |20,h=>exact At.lt h.2
 |15,_=>exact absurd rfl hp.1
 |18,_=>exact absurd rfl hp.2.1
 |19,_=>exact absurd rfl hp.2.2
 |n+21,_=>omega
theorem dH.same{n k:Nat}{a:Nd}{l r:Tr}(h:dH n w k a l r)(he:gY n->w'.heap[k]?=w.heap[k]?):dH n w' k a l r:=by
 match n,h with
 |0,h|1,h|2,h|3,h|4,h|5,h|6,h|7,h|8,h|9,h|10,h|11,h|12,h|13,h|14,h|16,h|17,h=>exact At.same h (he (by unfold gY;omega))
 |20,h=>exact⟨h.1,At.same h.2 (he (by unfold gY;omega))⟩
 |15,_|18,_|19,_=>trivial
 |n+21,_=>trivial
def xJ:Tr->Prop
 | .nil=>True
 | .node _ _ a l r=>xJ l/\xJ r/\a.tag < 21
theorem IsT.out:∀ {t:Tr},IsT w t->xJ t->∀ {k:Nat},w.heap.size<=k->dV k t:=by
 intro t
 induction t with
 |nil=>intro _ _ _ _;trivial
 |node b o a l r ihl ihr=>intro h hn k hk;exact⟨ihl h.1 hn.1 hk,ihr h.2.1 hn.2.1 hk,fun p=>Oi (dH.lt h.2.2 p hn.2.2)⟩
theorem IsT.but{k:Nat}(hw:∀ i,i < w.heap.size->i≠k->w'.heap[i]?=w.heap[i]?):∀ {t:Tr},IsT w t->xJ t->dV k t->IsT w' t:=by
 intro t
 induction t with
 |nil=>intro _ _ _;trivial
 |node b o a l r ihl ihr=>
  intro h hn hk;exact⟨ihl h.1 hn.1 hk.1,ihr h.2.1 hn.2.1 hk.2.1,dH.same h.2.2 (fun p=>hw b (dH.lt h.2.2 p hn.2.2) (hk.2.2 p))⟩
structure New(H:Nat)(w:World)(t:Tr):Prop where
 is:IsT w t
 fresh:aUI H t
 known:xJ t
theorem New.ex{H:Nat}{t:Tr}(h:New H w t)(hr:RdW T g cap b r w)(he:Ex b w w'):New H w' t:=⟨h.is.ex hr he,h.fresh,h.known⟩
theorem New.mono{H H':Nat}{t:Tr}(h:New H w t)(hH:H'<=H):New H' w t:=⟨h.is,h.fresh.mono hH,h.known⟩
theorem New.nil(H:Nat)(w:World):New H w .nil:=⟨trivial,trivial,trivial⟩
theorem New.node{H k o:Nat}{a:Nd}{l q:Tr}(hl:New H w l)(hq:New H w q)(hk:gY a.tag->H<=k)(hn:a.tag < 21)(ho:Own w k a l q):New H w (.node k o a l q):=
 ⟨⟨hl.is,hq.is,ho⟩,⟨hl.fresh,hq.fresh,hk⟩,⟨hl.known,hq.known,hn⟩⟩
theorem New.out{H:Nat}{t:Tr}(h:New H w t){k:Nat}(hk:w.heap.size<=k):dV k t:=h.is.out h.known hk
theorem New.but{H k:Nat}{t:Tr}(h:New H w t)(hw:∀ i,i < w.heap.size->i≠k->w'.heap[i]?=w.heap[i]?)(hk:dV k t):New H w' t:=⟨h.is.but hw h.known hk,h.fresh,h.known⟩
end
section
open Go.RowKit Go.Lib Go.Deep
variable (T:List Tok)
abbrev Pr:=Rd->Rd × Tr
abbrev Prs:=Nat->Pr
def cons(e l:Tr):Tr:=mk {tag:=15} e l
def gE(l:Tr):Tr:=match l with
 | .nil=> .nil
 |l=>mk {tag:=20} l .nil
def bCL(part:Pr)(ops:List Int):Nat->Rd->Tr->Rd × Tr
 |0,r,v=>(r,v)
 |n+1,r,v=>if aN T r ops then bCL part ops n (part (r.take T ops)).1 (mk {tag:=6,op:=(cN T r ops).kind,pos:=(cN T r ops).pos} v (part (r.take T ops)).2)else(r,v)
def lA(part:Pr)(ops:List Int)(n:Nat):Pr:=fun r=>bCL T part ops n (part r).1 (part r).2
def gD(part:Pr)(op:Int):Nat->Rd->Tr->Rd × Tr
 |0,r,v=>(r,v)
 |n+1,r,v=>if aN T r [op]then gD part op n (part (r.skips T [op])).1 (mk {tag:=8,op:=op} v (part (r.skips T [op])).2)else(r,v)
def kK(part:Pr)(op:Int)(n:Nat):Pr:=fun r=>gD T part op n (part r).1 (part r).2
def iR:List Int:=[23,24,25,26,21,22]
def iJ(side:Pr):Pr:=fun r=>
 ((side ((side r).1.take T iR)).1,mk {tag:=7,op:=(cN T (side r).1 iR).kind,pos:=(dD T r.next).pos} (side r).2 (side ((side r).1.take T iR)).2)
def bEG(one:Pr):Nat->Rd->Rd × Tr
 |0,r=>(r,.nil)
 |n+1,r=>if aN T r [18]then((bEG one n (one (r.skips T [18])).1).1,cons (one (r.skips T [18])).2 (bEG one n (one (r.skips T [18])).1).2)else(r,.nil)
def fX(one:Pr)(n:Nat):Pr:=fun r=>((bEG T one n (one r).1).1,gE (cons (one r).2 (bEG T one n (one r).1).2))
def vY(v:Int):Tr:=mk {tag:=0,val:=v} .nil .nil
def mO(t:Tok):Tr:=mk {tag:=1,name:=t.text,npos:=t.pos} .nil .nil
def gR(expr:Pr):Pr:=fun r=>((expr (r.opened T [16])).1.shut T 17,(expr (r.opened T [16])).2)
def lB(expr:Pr)(n:Nat):Pr:=fun r=>
 if aN T (r.opened T [12]) [13]then((r.opened T [12]).shut T 13,.nil)
 else((fX T expr n (r.opened T [12])).1.shut T 13,(fX T expr n (r.opened T [12])).2)
def gP(expr:Pr)(n:Nat)(t:Tok):Pr:=fun r=>
 if aN T r [16]then((gR T expr r).1,mk {tag:=2,name:=t.text,npos:=t.pos} (gR T expr r).2 .nil)
 else if aN T r [12]then((lB T expr n r).1,mk {tag:=3,name:=t.text,npos:=t.pos} (lB T expr n r).2 .nil)
 else(r,mO t)
def cA:List Int:=[2,1,12,28]
def gM(expr factor:Pr)(n:Nat):Pr:=fun r=>
 let t:=cN T r cA
 let r1:=r.take T cA
 if t.kind=2 then(r1,vY t.value)
 else if t.kind=12 then((expr (r1.deeper T.length t.pos)).1.shut T 13,mk {tag:=4} (expr (r1.deeper T.length t.pos)).2 .nil)
 else if t.kind=28 then
  let q:=factor (r1.deeper T.length t.pos)
  (⟨q.1.next,q.1.nest - 1,q.1.code,q.1.pos⟩,mk {tag:=5} q.2 .nil)
 else gP T expr n t r1
def lG:Pr:=fun r=>
 let t:=cN T r [28,2,1]
 let r1:=r.take T [28,2,1]
 if t.kind=28 then(r1.take T [2],vY (-(cN T r1 [2]).value))
 else if t.kind=2 then(r1,vY t.value)
 else(r1,mO t)
def uK:Pr:=iJ T (lG T)
def fM(expr:Pr):Pr:=fun r=>((expr r).1.take T [19],(expr r).2)
def sQ(expr:Pr)(t:Tok)(isLet:Bool):Pr:=fun r=>
 ((fM T expr (r.take T [20])).1,mk {tag:=9,name:=t.text,npos:=t.pos,flag:=isLet} (fM T expr (r.take T [20])).2 .nil)
def lK(expr:Pr)(t:Tok):Pr:=fun r=>
 let i:=gR T expr r
 let v:=fM T expr (i.1.take T [20])
 (v.1,mk {tag:=10,name:=t.text,npos:=t.pos} i.2 v.2)
def cL(stmt:Pr):Nat->Rd->Rd × Tr
 |0,r=>(r,.nil)
 |n+1,r=>if aN T r [15,0]then(r,.nil)else((cL stmt n (stmt r).1).1,cons (stmt r).2 (cL stmt n (stmt r).1).2)
def qI(stmt:Pr)(n:Nat):Pr:=fun r=>((cL T stmt n (r.opened T [14])).1.shut T 15,gE (cL T stmt n (r.opened T [14])).2)
def ifP(cond block:Pr):Pr:=fun r=>
 let c:=cond r
 let t:=block c.1
 if aN T t.1 [8]then((block (t.1.skips T [8])).1,mk {tag:=11} c.2 (mk {tag:=18} t.2 (block (t.1.skips T [8])).2))
 else(t.1,mk {tag:=11} c.2 (mk {tag:=18} t.2 .nil))
def aR:List Int:=[6,1,7,9,10,11]
def eL(expr cond block:Pr):Pr:=fun r=>
 let t:=cN T r aR
 let r1:=r.take T aR
 if t.kind=6 then sQ T expr (cN T r1 [1]) true (r1.take T [1])
 else if t.kind=7 then ifP T cond block r1
 else if t.kind=9 then((block (cond r1).1).1,mk {tag:=12} (cond r1).2 (block (cond r1).1).2)
 else if t.kind=10 then((fM T expr r1).1,mk {tag:=13} (fM T expr r1).2 .nil)
 else if t.kind=11 then((fM T expr r1).1,mk {tag:=14} (fM T expr r1).2 .nil)
 else if aN T r1 [16]then lK T expr t r1
 else sQ T expr t false r1
def aIX(n:Nat)(rec:Prs):Prs:=fun s=>match s with
 |0=>gM T (rec 2) (rec 0) n
 |1=>lA T (rec 0) [29,30,31] n
 |2=>lA T (rec 1) [27,28] n
 |3=>iJ T (rec 2)
 |4=>kK T (rec 3) 32 n
 |5=>kK T (rec 4) 33 n
 |6=>qI T (rec 7) n
 |_=>eL T (rec 2) (rec 5) (rec 6)
def iH:Nat->Prs
 |0=>fun s r=>(r.fail T.length 1 0,if s < 3 then mk {tag:=0} .nil .nil else if s < 6 then mk {tag:=7,op:=21} (mk {tag:=0} .nil .nil) (mk {tag:=0} .nil .nil)else if s=6 then .nil else mk {tag:=13} (mk {tag:=0} .nil .nil) .nil)
 |n+1=>aIX T n (iH n)
def nK:Pr:=fun r=>(r.take T [1],mk {tag:=19,name:=(cN T r [1]).text,npos:=(cN T r [1]).pos} .nil .nil)
def fQ:Pr:=fun r=>
 let t:=cN T r [1]
 let r1:=r.take T [1]
 let n:=cN T r1 [2]
 let r2:=r1.take T [2]
 (r2.take T [19],mk {tag:=16,name:=t.text,npos:=t.pos,val:=n.value,pos:=n.pos} .nil .nil)
def cZ(block:Pr)(n:Nat):Pr:=fun r=>
 let t:=cN T r [1]
 let r1:=(r.take T [1]).opened T [12]
 let ps:=if aN T r1 [1]then fX T (nK T) n r1 else(r1,.nil)
 let r2:=ps.1.shut T 13
 let ws:=if aN T r2 [5]then fX T (uK T) n (r2.skips T [5])else(r2,.nil)
 let bd:=block ws.1
 (bd.1,mk {tag:=17,name:=t.text,npos:=t.pos} ps.2 (mk {tag:=18} ws.2 bd.2))
def aJ(block:Pr)(m:Nat):Nat->Rd->Rd × Tr
 |0,r=>(r,.nil)
 |n+1,r=>
  if aN T r [0]then(r,.nil)
  else
   let t:=cN T r [3,4]
   let r1:=r.take T [3,4]
   if t.kind=3 then((aJ block m n (fQ T r1).1).1,cons (fQ T r1).2 (aJ block m n (fQ T r1).1).2)
   else if t.kind=4 then((aJ block m n (cZ T block m r1).1).1,cons (cZ T block m r1).2 (aJ block m n (cZ T block m r1).1).2)
   else aJ block m n r1
def rd0:Rd:=⟨0,0,0,0⟩
def bY:Nat:=T.length*16+16
def bP:Rd × Tr:=((aJ T (iH T (bY T) 6) (bY T) (bY T) rd0).1,gE (aJ T (iH T (bY T) 6) (bY T) (bY T) rd0).2)
end
section
open Go.RowKit Go.Lib Go.Deep
variable {T:List Tok}
def cY(T:List Tok):Prop:=(T.getD (T.length - 1) aD6).kind=0
structure Adv(T:List Tok)(r r':Rd):Prop where
 ge:r.next<=r'.next
 lt:r'.next < T.length
 nest:r'.nest=r.nest
theorem Adv.refl{r:Rd}(h:r.next < T.length):Adv T r r:=⟨Qc _,h,rfl⟩
theorem Adv.trans{a b c:Rd}(h:Adv T a b)(k:Adv T b c):Adv T a c:=⟨Qd h.ge k.ge,k.lt,k.nest.trans h.nest⟩
theorem aAP(he:cY T){r:Rd}(h:r.next < T.length){ks:List Int}(hs:aN T r ks=true)(h0:aQ ks 0=false):r.next+1 < T.length:=by
 rcases Qk (r.next+1) T.length with h2|h2
 ·exact h2
 ·exfalso;have e:r.next=T.length - 1:=Oa
  unfold aN dD at hs;rw[e,he,h0]at hs;cases hs
theorem lP(n:Nat)(r:Rd)(c p:Int):(r.fail n c p).next=n - 1/\(r.fail n c p).nest=r.nest:=by unfold Rd.fail;split<;>exact⟨rfl,rfl⟩
theorem aP(he:cY T){r:Rd}(h:r.next < T.length){ks:List Int}(h0:aQ ks 0=false):Adv T r (r.take T ks):=by
 unfold Rd.take
 by_cases hs:aN T r ks=true
 ·rw[if_pos hs];exact⟨by show r.next<=r.next+1;omega,aAP he h hs h0,rfl⟩
 ·rw[if_neg hs];have:=lP T.length r 2 (dD T r.next).pos;exact⟨Oa,Oa,this.2⟩
theorem dU(he:cY T){r:Rd}(h:r.next < T.length){ks:List Int}(h0:aQ ks 0=false):Adv T r (r.skips T ks):=by
 unfold Rd.skips
 by_cases hs:aN T r ks=true
 ·rw[if_pos hs];exact⟨by show r.next<=r.next+1;omega,aAP he h hs h0,rfl⟩
 ·rw[if_neg hs];exact Adv.refl h
theorem mD{r:Rd}(h:r.next < T.length)(p:Int):r.next<=(r.deeper T.length p).next/\(r.deeper T.length p).next < T.length/\(r.deeper T.length p).nest=r.nest+1:=by
 unfold Rd.deeper
 split
 ·have:=lP T.length ⟨r.next,r.nest+1,r.code,r.pos⟩ 6 p;exact⟨Oa,Oa,this.2⟩
 ·exact⟨Qc _,h,rfl⟩
theorem dF(he:cY T){r:Rd}(h:r.next < T.length){ks:List Int}(h0:aQ ks 0=false):r.next<=(r.opened T ks).next/\(r.opened T ks).next < T.length/\(r.opened T ks).nest=r.nest+1:=by
 have h1:=aP he h h0;have h2:=mD h1.lt (cN T r ks).pos;exact⟨Qd h1.ge h2.1,h2.2.1,by unfold Rd.opened;rw[h2.2.2,h1.nest]⟩
theorem lC(he:cY T){r a c:Rd}(h1:r.next<=a.next)(h2:a.nest=r.nest+1)(h:Adv T a c){k:Int}(h0:aQ [k] 0=false):Adv T r (c.shut T k):=by
 have h3:=aP he h.lt h0;exact⟨Qd (Qd h1 h.ge) h3.ge,h3.lt,by show(c.take T [k]).nest - 1=_;rw[h3.nest,h.nest,h2];omega⟩
def aZ(T:List Tok)(S:Pr):Prop:=∀ r,r.next < T.length->Adv T r (S r).1
theorem aEH(he:cY T){S:Pr}(hS:aZ T S){ops:List Int}(h0:aQ ops 0=false):∀ n r v,r.next < T.length->Adv T r (bCL T S ops n r v).1:=by
 intro n
 induction n with
 |zero=>intro r v h;exact Adv.refl h
 |succ n ih=>
  intro r v h;unfold bCL
  split
  ·have a1:=aP he h h0;have a2:=hS _ a1.lt;exact(a1.trans a2).trans (ih _ _ a2.lt)
  ·exact Adv.refl h
theorem zL(he:cY T){S:Pr}(hS:aZ T S){ops:List Int}(h0:aQ ops 0=false)(n:Nat):aZ T (lA T S ops n):=fun r h=>(hS r h).trans (aEH he hS h0 n _ _ (hS r h).lt)
theorem aEF(he:cY T){S:Pr}(hS:aZ T S){op:Int}(h0:aQ [op] 0=false):∀ n r v,r.next < T.length->Adv T r (gD T S op n r v).1:=by
 intro n
 induction n with
 |zero=>intro r v h;exact Adv.refl h
 |succ n ih=>
  intro r v h;unfold gD
  split
  ·have a1:=dU he h h0;have a2:=hS _ a1.lt;exact(a1.trans a2).trans (ih _ _ a2.lt)
  ·exact Adv.refl h
theorem zJ(he:cY T){S:Pr}(hS:aZ T S){op:Int}(h0:aQ [op] 0=false)(n:Nat):aZ T (kK T S op n):=fun r h=>(hS r h).trans (aEF he hS h0 n _ _ (hS r h).lt)
theorem uW(he:cY T){S:Pr}(hS:aZ T S):aZ T (iJ T S):=fun r h=>by
 have a1:=hS r h;have a2:=aP he a1.lt (show aQ iR 0=false by decide);exact(a1.trans a2).trans (hS _ a2.lt)
theorem zK(he:cY T){S:Pr}(hS:aZ T S):∀ n r,r.next < T.length->Adv T r (bEG T S n r).1:=by
 intro n
 induction n with
 |zero=>intro r h;exact Adv.refl h
 |succ n ih=>
  intro r h;unfold bEG
  split
  ·have a1:=dU he h (show aQ [18] 0=false by decide);have a2:=hS _ a1.lt;exact(a1.trans a2).trans (ih _ a2.lt)
  ·exact Adv.refl h
theorem rY(he:cY T){S:Pr}(hS:aZ T S)(n:Nat):aZ T (fX T S n):=fun r h=>(hS r h).trans (zK he hS n _ (hS r h).lt)
theorem lN(he:cY T){S:Pr}(hS:aZ T S):aZ T (gR T S):=fun r h=>by
 obtain⟨o1,o2,o3⟩:=dF he h (show aQ [16] 0=false by decide);exact lC he o1 o3 (hS _ o2) Ob
theorem aK8(he:cY T){S:Pr}(hS:aZ T S)(n:Nat):aZ T (lB T S n):=fun r h=>by
 obtain⟨o1,o2,o3⟩:=dF he h (show aQ [12] 0=false by decide);unfold lB
 split
 ·exact lC he o1 o3 (Adv.refl o2) Ob
 ·exact lC he o1 o3 (rY he hS n _ o2) Ob
theorem aG9(he:cY T){S:Pr}(hS:aZ T S)(n:Nat)(t:Tok):aZ T (gP T S n t):=fun r h=>by
 unfold gP
 split
 ·exact lN he hS r h
 ·split
  ·exact aK8 he hS n r h
  ·exact Adv.refl h
theorem aEG(he:cY T){S F:Pr}(hS:aZ T S)(hF:aZ T F)(n:Nat):aZ T (gM T S F n):=fun r h=>by
 have a1:=aP he h (show aQ cA 0=false by decide);obtain⟨d1,d2,d3⟩:=mD a1.lt (cN T r cA).pos;unfold gM;dsimp only
 split
 ·exact a1
 ·split
  ·exact a1.trans (lC he d1 d3 (hS _ d2) Ob)
  ·split
   ·have a3:=hF _ d2;refine a1.trans ⟨Qd d1 a3.ge,a3.lt,?_⟩;show(F _).1.nest - 1=_;rw[a3.nest,d3];omega
   ·exact a1.trans (aG9 he hS n _ _ a1.lt)
theorem wH(he:cY T):aZ T (lG T):=fun r h=>by
 have a1:=aP he h (show aQ [28,2,1] 0=false by decide);unfold lG;dsimp only
 split
 ·exact a1.trans (aP he a1.lt Ob)
 ·split<;>exact a1
theorem uV(he:cY T):aZ T (uK T):=uW he (wH he)
theorem jH(he:cY T){S:Pr}(hS:aZ T S):aZ T (fM T S):=fun r h=>(hS r h).trans (aP he (hS r h).lt Ob)
theorem pL(he:cY T){S:Pr}(hS:aZ T S)(t:Tok)(q:Bool):aZ T (sQ T S t q):=fun r h=>by
 have a1:=aP he h (show aQ [20] 0=false by decide);exact a1.trans (jH he hS _ a1.lt)
theorem tN(he:cY T){S:Pr}(hS:aZ T S)(t:Tok):aZ T (lK T S t):=fun r h=>by
 have a1:=lN he hS r h;have a2:=aP he a1.lt (show aQ [20] 0=false by decide);exact(a1.trans a2).trans (jH he hS _ a2.lt)
theorem xC{S:Pr}(hS:aZ T S):∀ n r,r.next < T.length->Adv T r (cL T S n r).1:=by
 intro n
 induction n with
 |zero=>intro r h;exact Adv.refl h
 |succ n ih=>
  intro r h;unfold cL
  split
  ·exact Adv.refl h
  ·exact(hS r h).trans (ih _ (hS r h).lt)
theorem aGA(he:cY T){S:Pr}(hS:aZ T S)(n:Nat):aZ T (qI T S n):=fun r h=>by
 obtain⟨o1,o2,o3⟩:=dF he h (show aQ [14] 0=false by decide);exact lC he o1 o3 (xC hS n _ o2) Ob
theorem aC9(he:cY T){C B:Pr}(hC:aZ T C)(hB:aZ T B):aZ T (ifP T C B):=fun r h=>by
 have a1:=hC r h;have a2:=hB _ a1.lt;unfold ifP;dsimp only
 split
 ·have a3:=dU he a2.lt (show aQ [8] 0=false by decide);exact((a1.trans a2).trans a3).trans (hB _ a3.lt)
 ·exact a1.trans a2
theorem aB3(he:cY T){S C B:Pr}(hS:aZ T S)(hC:aZ T C)(hB:aZ T B):aZ T (eL T S C B):=fun r h=>by
 have a1:=aP he h (show aQ aR 0=false by decide);unfold eL;dsimp only
 split
 ·have a2:=aP he a1.lt (show aQ [1] 0=false by decide);exact(a1.trans a2).trans (pL he hS _ _ _ a2.lt)
 split
 ·exact a1.trans (aC9 he hC hB _ a1.lt)
 split
 ·exact(a1.trans (hC _ a1.lt)).trans (hB _ (hC _ a1.lt).lt)
 split
 ·exact a1.trans (jH he hS _ a1.lt)
 split
 ·exact a1.trans (jH he hS _ a1.lt)
 split
 ·exact a1.trans (tN he hS _ _ a1.lt)
 ·exact a1.trans (pL he hS _ _ _ a1.lt)
theorem gF(he:cY T):∀ n s,aZ T (iH T n s):=by
 intro n
 induction n with
 |zero=>
  intro s r h;have:=lP T.length r 1 0;exact⟨by show r.next<=(r.fail T.length 1 0).next;omega,by show(r.fail T.length 1 0).next < _;omega,this.2⟩
 |succ n ih=>
  intro s;show aZ T (aIX T n (iH T n) s);unfold aIX
  split
  ·exact aEG he (ih 2) (ih 0) n
  ·exact zL he (ih 0) Ob n
  ·exact zL he (ih 1) Ob n
  ·exact uW he (ih 2)
  ·exact zJ he (ih 3) Ob n
  ·exact zJ he (ih 4) Ob n
  ·exact aGA he (ih 7) n
  ·exact aB3 he (ih 2) (ih 5) (ih 6)
def So(lo hi:Nat)(S:Pr):Prop:=∀ r,∃ a x y,(S r).2=mk a x y/\lo<=a.tag/\a.tag < hi
def SoL(S:Pr):Prop:=∀ r,(S r).2= .nil\/∃ a x,(S r).2=mk a x .nil/\a.tag=20
theorem aJ2{S:Pr}{ops:List Int}:∀ n r v,(∃ a x y,v=mk a x y/\0<=a.tag/\a.tag < 7)->∃ a x y,(bCL T S ops n r v).2=mk a x y/\0<=a.tag/\a.tag < 7:=by
 intro n
 induction n with
 |zero=>intro r v h;exact h
 |succ n ih=>
  intro r v h;unfold bCL
  split
  ·exact ih _ _ ⟨_,_,_,rfl,Od,Od⟩
  ·exact h
theorem aDK{S:Pr}(hS:So 0 7 S)(ops:List Int)(n:Nat):So 0 7 (lA T S ops n):=fun r=>aJ2 n _ _ (hS r)
theorem aJ0{S:Pr}{op:Int}:∀ n r v,(∃ a x y,v=mk a x y/\7<=a.tag/\a.tag < 9)->∃ a x y,(gD T S op n r v).2=mk a x y/\7<=a.tag/\a.tag < 9:=by
 intro n
 induction n with
 |zero=>intro r v h;exact h
 |succ n ih=>
  intro r v h;unfold gD
  split
  ·exact ih _ _ ⟨_,_,_,rfl,Od,Od⟩
  ·exact h
theorem aDJ{S:Pr}(hS:So 7 9 S)(op:Int)(n:Nat):So 7 9 (kK T S op n):=fun r=>aJ0 n _ _ (hS r)
theorem aFP(S:Pr):So 7 9 (iJ T S):=fun r=>⟨_,_,_,rfl,Od,Od⟩
theorem aMD(E:Pr)(n:Nat)(t:Tok):So 0 7 (gP T E n t):=fun r=>by
 unfold gP;split
 ·exact⟨_,_,_,rfl,Od,Od⟩
 ·split<;>exact⟨_,_,_,rfl,Od,Od⟩
theorem aJ1(E F:Pr)(n:Nat):So 0 7 (gM T E F n):=fun r=>by
 unfold gM;dsimp only
 split
 ·exact⟨_,_,_,rfl,Od,Od⟩
 split
 ·exact⟨_,_,_,rfl,Od,Od⟩
 split
 ·exact⟨_,_,_,rfl,Od,Od⟩
 ·exact aMD E n _ _
theorem aPX:So 0 7 (lG T):=fun r=>by
 unfold lG;dsimp only
 split
 ·exact⟨_,_,_,rfl,Od,Od⟩
 split<;>exact⟨_,_,_,rfl,Od,Od⟩
theorem aTQ(C B:Pr):So 9 15 (ifP T C B):=fun r=>by
 unfold ifP;dsimp only
 split<;>exact⟨_,_,_,rfl,Od,Od⟩
theorem aMA(E:Pr)(t:Tok)(q:Bool):So 9 15 (sQ T E t q):=fun r=>⟨_,_,_,rfl,by show 9<=9;omega,by show 9 < 15;omega⟩
theorem aM9(E:Pr)(t:Tok):So 9 15 (lK T E t):=fun r=>⟨_,_,_,rfl,by show 9<=10;omega,by show 10 < 15;omega⟩
theorem aPW(E C B:Pr):So 9 15 (eL T E C B):=fun r=>by
 unfold eL;dsimp only
 split
 ·exact aMA E _ _ _
 split
 ·exact aTQ C B _
 split
 ·exact⟨_,_,_,rfl,Od,Od⟩
 split
 ·exact⟨_,_,_,rfl,Od,Od⟩
 split
 ·exact⟨_,_,_,rfl,Od,Od⟩
 split
 ·exact aM9 E _ _
 ·exact aMA E _ _ _
theorem aIZ(S:Pr)(n:Nat):SoL (qI T S n):=fun r=>by
 unfold qI gE;dsimp only
 split
 ·exact .inl rfl
 ·exact .inr ⟨_,_,rfl,rfl⟩
theorem aDI:∀ n s,(s < 3->So 0 7 (iH T n s))/\(3<=s->s < 6->So 7 9 (iH T n s))/\(s=6->SoL (iH T n s))/\(6 < s->So 9 15 (iH T n s)):=by
 intro n
 induction n with
 |zero=>
  intro s;refine⟨fun h r=>?_,fun h1 h2 r=>?_,fun h r=>?_,fun h r=>?_⟩
  ·exact⟨{tag:=0},.nil,.nil,if_pos h,Ob,Ob⟩
  ·exact⟨{tag:=7,op:=21},_,_,by show(if s < 3 then _ else _)=_;rw[Oh,if_pos h2],Ob,Ob⟩
  ·left;subst h;rfl
  ·exact⟨{tag:=13},_,_,by show(if s < 3 then _ else _)=_;rw[Oh,Oh,Oh],Ob,Ob⟩
 |succ n ih=>
  intro s
  match s with
  |0=>exact⟨fun _=>aJ1 _ _ _,fun h=>Oa,fun h=>Oa,fun h=>Oa⟩
  |1=>exact⟨fun _=>aDK ((ih 0).1 Oa) _ _,fun h=>Oa,fun h=>Oa,fun h=>Oa⟩
  |2=>exact⟨fun _=>aDK ((ih 1).1 Oa) _ _,fun h=>Oa,fun h=>Oa,fun h=>Oa⟩
  |3=>exact⟨fun h=>Oa,fun _ _=>aFP _,fun h=>Oa,fun h=>Oa⟩
  |4=>exact⟨fun h=>Oa,fun _ _=>aDJ ((ih 3).2.1 Oa Oa) _ _,fun h=>Oa,fun h=>Oa⟩
  |5=>exact⟨fun h=>Oa,fun _ _=>aDJ ((ih 4).2.1 Oa Oa) _ _,fun h=>Oa,fun h=>Oa⟩
  |6=>exact⟨fun h=>Oa,fun _ h=>Oa,fun _=>aIZ _ _,fun h=>Oa⟩
  |s+7=>exact⟨fun h=>Oa,fun _ h=>Oa,fun h=>Oa,fun _=>aPW _ _ _⟩
theorem aUJ{t:Tr}{a:Nd}{x y:Tr}(h:er t=mk a x y)(ha:a.tag < 20):∃ u p,bCH t= .iface u (.pointer (some p)):=by
 cases t with
 |nil=>cases h
 |node b o a' l r=>
  simp only[er,mk,BT.node.injEq]at h;obtain⟨_,_,rfl,_⟩:=h;exact⟨bZ a'.tag,⟨b,0,none⟩,Oh⟩
end
section
open Go.RowKit Go.Lib Go.Deep
def epN(a:Nd):Nd:={a with pos:=0,npos:=0}
def ep:Tr->Tr
 | .nil=> .nil
 | .node _ _ a l r=> .node 0 0 (epN a) (ep l) (ep r)
structure TS(t t':Tok):Prop where
 kind:t.kind=t'.kind
 text:t.text=t'.text
 value:t.value=t'.value
structure TsL(T T':List Tok):Prop where
 len:T.length=T'.length
 at_:∀ i,TS (dD T i) (dD T' i)
structure RS(r r':Rd):Prop where
 next:r.next=r'.next
 nest:r.nest=r'.nest
 code:r.code=r'.code
structure PS2(a b:Rd × Tr):Prop where
 rd:RS a.1 b.1
 tr:ep a.2=ep b.2
def PS(P P':Pr):Prop:=∀ r r',RS r r'->PS2 (P r) (P' r')
variable {T T':List Tok} {r r':Rd}
theorem TS.refl(t:Tok):TS t t:=⟨rfl,rfl,rfl⟩
theorem bEO(hT:TsL T T')(h:RS r r')(ks:List Int):aN T r ks=aN T' r' ks:=by
 unfold aN;rw[h.next,(hT.at_ _).kind]
theorem RS.failed(h:RS r r')(n:Nat)(c p p':Int):RS (r.fail n c p) (r'.fail n c p'):=by
 unfold Rd.fail;rw[h.code]
 split
 ·exact⟨rfl,h.nest,rfl⟩
 ·exact⟨rfl,h.nest,rfl⟩
theorem RS.take(hT:TsL T T')(h:RS r r')(ks:List Int):RS (r.take T ks) (r'.take T' ks):=by
 unfold Rd.take;rw[bEO hT h,hT.len]
 split
 ·exact⟨by show r.next+1=r'.next+1;rw[h.next],h.nest,h.code⟩
 ·exact h.failed _ _ _ _
theorem bEX(hT:TsL T T')(h:RS r r')(ks:List Int):TS (cN T r ks) (cN T' r' ks):=by
 unfold cN;rw[bEO hT h]
 split
 ·rw[h.next];exact hT.at_ _
 ·exact TS.refl _
theorem RS.skips(hT:TsL T T')(h:RS r r')(ks:List Int):RS (r.skips T ks) (r'.skips T' ks):=by
 unfold Rd.skips;rw[bEO hT h]
 split
 ·exact⟨by show r.next+1=r'.next+1;rw[h.next],h.nest,h.code⟩
 ·exact h
theorem RS.deeper(h:RS r r')(n:Nat)(p p':Int):RS (r.deeper n p) (r'.deeper n p'):=by
 unfold Rd.deeper;rw[h.nest];have h1:RS ⟨r.next,r.nest+1,r.code,r.pos⟩ ⟨r'.next,r'.nest+1,r'.code,r'.pos⟩:=⟨h.next,by show r.nest+1=_;rw[h.nest],h.code⟩
 split
 ·have:=h1.failed n 6 p p';rw[h.nest]at this;exact this
 ·rw[h.nest]at h1;exact h1
theorem RS.opened(hT:TsL T T')(h:RS r r')(ks:List Int):RS (r.opened T ks) (r'.opened T' ks):=by
 unfold Rd.opened;rw[hT.len];exact(h.take hT ks).deeper _ _ _
theorem RS.shut(hT:TsL T T')(h:RS r r')(k:Int):RS (r.shut T k) (r'.shut T' k):=by
 have h1:=h.take hT [k];exact⟨h1.next,by show _ - 1=_ - 1;rw[h1.nest],h1.code⟩
theorem bFQ{l l':Tr}(h:ep l=ep l'):ep (gE l)=ep (gE l'):=by
 cases l<;>cases l'
 ·rfl
 ·cases h
 ·cases h
 ·show BT.node 0 0 _ (ep _) _=BT.node 0 0 _ (ep _) _;rw[h]
theorem bEP{a a':Nd}{l l' q q':Tr}(ha:epN a=epN a')(hl:ep l=ep l')(hq:ep q=ep q'):ep (mk a l q)=ep (mk a' l' q'):=by
 show BT.node 0 0 (epN a) (ep l) (ep q)=BT.node 0 0 (epN a') (ep l') (ep q');rw[ha,hl,hq]
theorem bFK{e e' l l':Tr}(he:ep e=ep e')(hl:ep l=ep l'):ep (cons e l)=ep (cons e' l'):=bEP rfl he hl
variable (hT:TsL T T')
include hT
theorem bIW{p p':Pr}(hp:PS p p')(ops:List Int):∀ (n:Nat) (r r':Rd) (v v':Tr),RS r r'->ep v=ep v'->PS2 (bCL T p ops n r v) (bCL T' p' ops n r' v'):=by
 intro n
 induction n with
 |zero=>intro r r' v v' h hv;exact⟨h,hv⟩
 |succ n ih=>
  intro r r' v v' h hv;show PS2 (if _ then _ else _) (if _ then _ else _);rw[bEO hT h]
  split
  ·have h1:=hp _ _ (h.take hT ops);exact ih _ _ _ _ h1.rd (bEP (by unfold epN;dsimp only;rw[(bEX hT h ops).kind]) hv h1.tr)
  ·exact⟨h,hv⟩
theorem bH8{p p':Pr}(hp:PS p p')(ops:List Int)(n:Nat):PS (lA T p ops n) (lA T' p' ops n):=fun r r' h=>bIW hT hp ops n _ _ _ _ (hp r r' h).rd (hp r r' h).tr
theorem bIR{p p':Pr}(hp:PS p p')(op:Int):∀ (n:Nat) (r r':Rd) (v v':Tr),RS r r'->ep v=ep v'->PS2 (gD T p op n r v) (gD T' p' op n r' v'):=by
 intro n
 induction n with
 |zero=>intro r r' v v' h hv;exact⟨h,hv⟩
 |succ n ih=>
  intro r r' v v' h hv;show PS2 (if _ then _ else _) (if _ then _ else _);rw[bEO hT h]
  split
  ·have h1:=hp _ _ (h.skips hT [op]);exact ih _ _ _ _ h1.rd (bEP rfl hv h1.tr)
  ·exact⟨h,hv⟩
theorem bH1{p p':Pr}(hp:PS p p')(op:Int)(n:Nat):PS (kK T p op n) (kK T' p' op n):=fun r r' h=>bIR hT hp op n _ _ _ _ (hp r r' h).rd (hp r r' h).tr
theorem bG6{p p':Pr}(hp:PS p p'):PS (iJ T p) (iJ T' p'):=by
 intro r r' h;have h1:=hp _ _ h;have h2:=hp _ _ (h1.rd.take hT iR);exact⟨h2.rd,bEP (by unfold epN;dsimp only;rw[(bEX hT h1.rd iR).kind]) h1.tr h2.tr⟩
theorem bJB{p p':Pr}(hp:PS p p'):∀ (n:Nat) (r r':Rd),RS r r'->PS2 (bEG T p n r) (bEG T' p' n r'):=by
 intro n
 induction n with
 |zero=>intro r r' h;exact⟨h,rfl⟩
 |succ n ih=>
  intro r r' h;show PS2 (if _ then _ else _) (if _ then _ else _);rw[bEO hT h]
  split
  ·have h1:=hp _ _ (h.skips hT [18]);have h2:=ih _ _ h1.rd;exact⟨h2.rd,bFK h1.tr h2.tr⟩
  ·exact⟨h,rfl⟩
theorem bGL{p p':Pr}(hp:PS p p')(n:Nat):PS (fX T p n) (fX T' p' n):=by
 intro r r' h;have h1:=hp _ _ h;have h2:=bJB hT hp n _ _ h1.rd;exact⟨h2.rd,bFQ (bFK h1.tr h2.tr)⟩
theorem bH5{p p':Pr}(hp:PS p p'):PS (gR T p) (gR T' p'):=by
 intro r r' h;have h1:=hp _ _ (h.opened hT [16]);exact⟨h1.rd.shut hT 17,h1.tr⟩
theorem bJJ{p p':Pr}(hp:PS p p')(n:Nat):PS (lB T p n) (lB T' p' n):=by
 intro r r' h;have h0:=h.opened hT [12];have h1:=bGL hT hp n _ _ h0;unfold lB;rw[bEO hT h0]
 split
 ·exact⟨h0.shut hT 13,rfl⟩
 ·exact⟨h1.rd.shut hT 13,h1.tr⟩
theorem bIQ{p p':Pr}(hp:PS p p')(n:Nat){t t':Tok}(ht:TS t t'):PS (gP T p n t) (gP T' p' n t'):=by
 intro r r' h;have h1:=bH5 hT hp _ _ h;have h2:=bJJ hT hp n _ _ h;unfold gP;rw[bEO hT h,bEO hT h]
 split
 ·exact⟨h1.rd,bEP (by unfold epN;dsimp only;rw[ht.text]) h1.tr rfl⟩
 ·split
  ·exact⟨h2.rd,bEP (by unfold epN;dsimp only;rw[ht.text]) h2.tr rfl⟩
  ·exact⟨h,bEP (by unfold epN;dsimp only;rw[ht.text]) rfl rfl⟩
theorem bIC{p p' f f':Pr}(hp:PS p p')(hf:PS f f')(n:Nat):PS (gM T p f n) (gM T' p' f' n):=by
 intro r r' h;have ht:=bEX hT h cA;have h1:=h.take hT cA;have h2:=hp _ _ (h1.deeper T.length (cN T r cA).pos (cN T' r' cA).pos);have h3:=hf _ _ (h1.deeper T.length (cN T r cA).pos (cN T' r' cA).pos);have h4:=bIQ hT hp n ht _ _ h1;unfold gM;dsimp only;rw[<-hT.len,ht.kind]
 split
 ·exact⟨h1,bEP (by unfold epN;dsimp only;rw[ht.value]) rfl rfl⟩
 split
 ·exact⟨h2.rd.shut hT 13,bEP rfl h2.tr rfl⟩
 split
 ·exact⟨⟨h3.rd.next,by show _ - 1=_ - 1;rw[h3.rd.nest],h3.rd.code⟩,bEP rfl h3.tr rfl⟩
 ·exact h4
theorem bJI:PS (lG T) (lG T'):=by
 intro r r' h;have ht:=bEX hT h [28,2,1];have h1:=h.take hT [28,2,1];have h2:=bEX hT h1 [2];unfold lG;dsimp only;rw[ht.kind]
 split
 ·exact⟨h1.take hT [2],bEP (by unfold epN;dsimp only;rw[h2.value]) rfl rfl⟩
 split
 ·exact⟨h1,bEP (by unfold epN;dsimp only;rw[ht.value]) rfl rfl⟩
 ·exact⟨h1,bEP (by unfold epN;dsimp only;rw[ht.text]) rfl rfl⟩
theorem bJT:PS (uK T) (uK T'):=bG6 hT (bJI hT)
theorem bFX{p p':Pr}(hp:PS p p'):PS (fM T p) (fM T' p'):=fun _ _ h=>⟨(hp _ _ h).rd.take hT [19],(hp _ _ h).tr⟩
theorem bIL{p p':Pr}(hp:PS p p'){t t':Tok}(ht:TS t t')(isLet:Bool):PS (sQ T p t isLet) (sQ T' p' t' isLet):=by
 intro r r' h;have h1:=bFX hT hp _ _ (h.take hT [20]);exact⟨h1.rd,bEP (by unfold epN;dsimp only;rw[ht.text]) h1.tr rfl⟩
theorem bIH{p p':Pr}(hp:PS p p'){t t':Tok}(ht:TS t t'):PS (lK T p t) (lK T' p' t'):=by
 intro r r' h;have h1:=bH5 hT hp _ _ h;have h2:=bFX hT hp _ _ (h1.rd.take hT [20]);exact⟨h2.rd,bEP (by unfold epN;dsimp only;rw[ht.text]) h1.tr h2.tr⟩
theorem bH9{p p':Pr}(hp:PS p p'):∀ (n:Nat) (r r':Rd),RS r r'->PS2 (cL T p n r) (cL T' p' n r'):=by
 intro n
 induction n with
 |zero=>intro r r' h;exact⟨h,rfl⟩
 |succ n ih=>
  intro r r' h;show PS2 (if _ then _ else _) (if _ then _ else _);rw[bEO hT h]
  split
  ·exact⟨h,rfl⟩
  ·have h1:=hp _ _ h;have h2:=ih _ _ h1.rd;exact⟨h2.rd,bFK h1.tr h2.tr⟩
theorem bIY{p p':Pr}(hp:PS p p')(n:Nat):PS (qI T p n) (qI T' p' n):=fun _ _ h=>⟨(bH9 hT hp n _ _ (h.opened hT [14])).rd.shut hT 15,bFQ (bH9 hT hp n _ _ (h.opened hT [14])).tr⟩
theorem bK3{c c' p p':Pr}(hc:PS c c')(hp:PS p p'):PS (ifP T c p) (ifP T' c' p'):=by
 intro r r' h;have h1:=hc _ _ h;have h2:=hp _ _ h1.rd;have h3:=hp _ _ (h2.rd.skips hT [8]);unfold ifP;dsimp only;rw[bEO hT h2.rd]
 split
 ·exact⟨h3.rd,bEP rfl h1.tr (bEP rfl h2.tr h3.tr)⟩
 ·exact⟨h2.rd,bEP rfl h1.tr (bEP rfl h2.tr rfl)⟩
theorem bJ4{e e' c c' p p':Pr}(he:PS e e')(hc:PS c c')(hp:PS p p'):PS (eL T e c p) (eL T' e' c' p'):=by
 intro r r' h;have ht:=bEX hT h aR;have h1:=h.take hT aR;have h2:=bIL hT he (bEX hT h1 [1]) true _ _ (h1.take hT [1]);have h3:=bK3 hT hc hp _ _ h1;have h4:=hc _ _ h1;have h5:=hp _ _ h4.rd;have h6:=bFX hT he _ _ h1;have h7:=bIH hT he ht _ _ h1;have h8:=bIL hT he ht false _ _ h1;unfold eL;dsimp only;rw[ht.kind,bEO hT h1]
 split
 ·exact h2
 split
 ·exact h3
 split
 ·exact⟨h5.rd,bEP rfl h4.tr h5.tr⟩
 split
 ·exact⟨h6.rd,bEP rfl h6.tr rfl⟩
 split
 ·exact⟨h6.rd,bEP rfl h6.tr rfl⟩
 split
 ·exact h7
 ·exact h8
theorem bJ9:∀ (n:Nat) (s:Nat),PS (iH T n s) (iH T' n s):=by
 intro n
 induction n with
 |zero=>intro s r r' h;exact⟨by show RS (r.fail T.length 1 0) (r'.fail T'.length 1 0);rw[hT.len];exact h.failed _ _ _ _,rfl⟩
 |succ n ih=>
  intro s;show PS (aIX T n (iH T n) s) (aIX T' n (iH T' n) s);unfold aIX
  split
  ·exact bIC hT (ih 2) (ih 0) n
  ·exact bH8 hT (ih 0) _ n
  ·exact bH8 hT (ih 1) _ n
  ·exact bG6 hT (ih 2)
  ·exact bH1 hT (ih 3) 32 n
  ·exact bH1 hT (ih 4) 33 n
  ·exact bIY hT (ih 7) n
  ·exact bJ4 hT (ih 2) (ih 5) (ih 6)
theorem bIO:PS (nK T) (nK T'):=fun r r' h=>⟨h.take hT [1],bEP (by unfold epN;dsimp only;rw[(bEX hT h [1]).text]) rfl rfl⟩
theorem bJ0:PS (fQ T) (fQ T'):=by
 intro r r' h;have ht:=bEX hT h [1];have h1:=h.take hT [1];have h2:=bEX hT h1 [2];have h3:=h1.take hT [2];exact⟨h3.take hT [19],bEP (by unfold epN;dsimp only;rw[ht.text,h2.value]) rfl rfl⟩
theorem bH6{p p':Pr}(hp:PS p p')(n:Nat):PS (cZ T p n) (cZ T' p' n):=by
 intro r r' h;have ht:=bEX hT h [1];have h1:=(h.take hT [1]).opened hT [12]
 have h2:PS2 (if aN T ((r.take T [1]).opened T [12]) [1]then fX T (nK T) n ((r.take T [1]).opened T [12])else((r.take T [1]).opened T [12],.nil)) (if aN T' ((r'.take T' [1]).opened T' [12]) [1]then fX T' (nK T') n ((r'.take T' [1]).opened T' [12])else((r'.take T' [1]).opened T' [12],.nil)):=by
  rw[bEO hT h1]
  split
  ·exact bGL hT (bIO hT) n _ _ h1
  ·exact⟨h1,rfl⟩
 unfold cZ;dsimp only;generalize (if aN T ((r.take T [1]).opened T [12]) [1]then fX T (nK T) n ((r.take T [1]).opened T [12])else((r.take T [1]).opened T [12],.nil))=A at*;generalize (if aN T' ((r'.take T' [1]).opened T' [12]) [1]then fX T' (nK T') n ((r'.take T' [1]).opened T' [12])else((r'.take T' [1]).opened T' [12],.nil))=A' at*;have h3:=h2.rd.shut hT 13
 have h4:PS2 (if aN T (A.1.shut T 13) [5]then fX T (uK T) n ((A.1.shut T 13).skips T [5])else(A.1.shut T 13,.nil)) (if aN T' (A'.1.shut T' 13) [5]then fX T' (uK T') n ((A'.1.shut T' 13).skips T' [5])else(A'.1.shut T' 13,.nil)):=by
  rw[bEO hT h3]
  split
  ·exact bGL hT (bJT hT) n _ _ (h3.skips hT [5])
  ·exact⟨h3,rfl⟩
 generalize (if aN T (A.1.shut T 13) [5]then fX T (uK T) n ((A.1.shut T 13).skips T [5])else(A.1.shut T 13,.nil))=W at*;generalize (if aN T' (A'.1.shut T' 13) [5]then fX T' (uK T') n ((A'.1.shut T' 13).skips T' [5])else(A'.1.shut T' 13,.nil))=W' at*;have h5:=hp _ _ h4.rd;exact⟨h5.rd,bEP (by unfold epN;dsimp only;rw[ht.text]) h2.tr (bEP rfl h4.tr h5.tr)⟩
theorem bHI{p p':Pr}(hp:PS p p')(m:Nat):∀ (n:Nat) (r r':Rd),RS r r'->PS2 (aJ T p m n r) (aJ T' p' m n r'):=by
 intro n
 induction n with
 |zero=>intro r r' h;exact⟨h,rfl⟩
 |succ n ih=>
  intro r r' h;show PS2 (if _ then _ else _) (if _ then _ else _);rw[bEO hT h]
  split
  ·exact⟨h,rfl⟩
  ·have ht:=bEX hT h [3,4];have h1:=h.take hT [3,4];have h2:=bJ0 hT _ _ h1;have h3:=bH6 hT hp m _ _ h1;have h4:=ih _ _ h2.rd;have h5:=ih _ _ h3.rd;have h6:=ih _ _ h1;dsimp only;rw[ht.kind]
   split
   ·exact⟨h4.rd,bFK h2.tr h4.tr⟩
   split
   ·exact⟨h5.rd,bFK h3.tr h5.tr⟩
   ·exact h6
theorem bHH:(bP T).1.code=(bP T').1.code/\ep (bP T).2=ep (bP T').2:=by
 have hf:bY T=bY T':=by unfold bY;rw[hT.len]
 unfold bP;rw[hf];have h:=bHI hT (bJ9 hT (bY T') 6) (bY T') (bY T') rd0 rd0 ⟨rfl,rfl,rfl⟩;exact⟨h.rd.code,bFQ h.tr⟩
end
end Go.Proofs.YtikffmloeifkpaaGreatDoor
