/- Contracts. -/
import Derived.Test.YtikffmloeifkpaaGreatDoorQ23
import Derived.Laws.CopyOwn
set_option maxHeartbeats 16000000
set_option maxRecDepth 100000
namespace Go.Proofs.YtikffmloeifkpaaGreatDoor
section
open Go.RowKit Go.Lib Go.Deep Go.ChangeMaps Go.MapKept
def xK(w:World)(va:Value)(args:List Int):Prop:=∃ sp cap,va= .slice sp args.length cap/\(0 < args.length->∃ ad,sp=some ad/\∀ j v,(args.map (Value.int .i64))[j]?=some v->w.cell? (ad.add j)=some v)
def sO(x:Rs4)(w:World):Ending->World->Prop:=fun e w'=>∃ vO,e= .returned (.agg #[.int .i64 x.fin,.int .i64 x.value,.int .i64 x.site,vO])/\w'.ownsRow w.heap.size 2 1 vO x.outs.length (x.outs.map (Value.int .i64))/\Below w.heap.size w w'
def isZ(v:Option Value):Bool:=match v with
 |some (.int .i64 0)=>true
 |_=>false
theorem aST{v:Option Value}(h:isZ v=true):v=some (.int .i64 0):=by
 unfold isZ at h
 split at h
 ·rfl
 ·cases h
theorem aL5:∀ i,i < 389->isZ Tryz.zeroCells162[i+1]?=true:=by decide+kernel
theorem aIF:Tryz.zeroCells162[0]?=some (.pointer none)/\Tryz.zeroCells162[390]?=some (.slice none 0 0):=by constructor<;>kernel_rfl
theorem aSE{pb n:Nat}{cs:Array Value}(h:cs=(Tryz.zeroCells162.setIfInBounds 0 (Value.pointer (some ⟨pb,0,none⟩))).setIfInBounds 385 (Value.int .i64 n)):RnC pb ⟨fun _=>0,n,0,0,0,[]⟩ (.slice none 0 0) cs:=by
 have z:∀ i,i < 389->Tryz.zeroCells162[i+1]?=some (.int .i64 0):=fun i hi=>aST (aL5 i hi);obtain⟨z0,z1⟩:=aIF;rw[h];exact⟨bT Oa (nX z0),fun i hi=>bT Oa (bT Oa (z i Oa)),nX (bT Oa (z 384 Oa)),bT Oa (bT Oa (z 385 Oa)),bT Oa (bT Oa (z 386 Oa)),bT Oa (bT Oa (z 387 Oa)),bT Oa (bT Oa (z 388 Oa)),bT Oa (bT Oa z1)⟩
theorem PgX.next{pb:Nat}{al fl:List Tr}{w w':World}(h:PgX pb al fl w)(hw:∀ i,i < w.heap.size->w'.heap[i]?=w.heap[i]?):PgX pb al fl w':=by
 have off:∀ {j:Nat} {c2:Array Value} {ty:TypeId},w.heap[j]?=some (.cells c2 ty (0,0))->w'.heap[j]?=w.heap[j]?:=fun hj=>hw _ (Oo hj);obtain⟨it,vA,vF,m,vS,H,hp,hA,hF⟩:=h.prog;refine⟨⟨it,vA,vF,m,vS,H,(off hp).trans hp,cD hA (fun j hj=>?_),⟨cD hF.row (fun j hj=>?_),fun e he=>?_⟩⟩,fun e he=>?_,h.few,fun e he=>IsT.next hw (h.fns e he)⟩
 ·obtain⟨⟨c,hc⟩,_⟩:=bEH hA hj;exact off hc
 ·obtain⟨⟨c,hc⟩,_⟩:=bEH hF.row hj;exact off hc
 ·obtain⟨b,o,a,l,x,y,z,p,q,e1,e2,e3⟩:=hF.own e he;exact⟨b,o,a,l,x,y,z,p,q,e1,At.same e2 (hw _ (At.lt e2)),e3⟩
 ·obtain⟨b,o,a,l,q,e1,e2,e3⟩:=h.arr e he;exact⟨b,o,a,l,q,e1,At.same e2 (hw _ (At.lt e2)),e3⟩
theorem RnW.past{B pb rb fb:Nat}{r:Rn}{w w':World}{c:Array Value}(h:RnW B pb rb r w)(hf:w.heap[fb]?=some (.cells c 165 (0,0)))(hw:∀ i,i < w.heap.size->i≠fb->w'.heap[i]?=w.heap[i]?):RnW B pb rb r w':=by
 obtain⟨cs,vO,hc,h1,h2⟩:=h.ex
 exact⟨⟨cs,vO,(hw _ (Oo hc) (bEF hc hf Ob)).trans hc,h1,cD h2 (fun k hk=>by
  obtain⟨⟨c2,h0⟩,_⟩:=bEH h2 hk;exact hw _ (Oo h0) (bEF h0 hf Ob))⟩,h.ge,h.few⟩
theorem aGI(rb:Nat)(xs:List Int)(h:xs.length<=12):FmC rb (cI xs) 0 (splice (.pointer (some ⟨rb,0,none⟩)::List.replicate 13 (Value.int .i64 0)) 1 (xs.map (Value.int .i64))).toArray:=by
 have key:∀ i,i < 13->(splice (.pointer (some ⟨rb,0,none⟩)::List.replicate 13 (Value.int .i64 0)) 1 (xs.map (Value.int .i64))).toArray[i+1]?=some (.int .i64 (cI xs i)):=by
  intro i hi;unfold splice cI;simp only[List.getElem?_toArray,List.take_succ_cons,List.take_zero,List.singleton_append,List.getElem?_cons_succ,List.getElem?_append,List.length_map,List.getD_eq_getElem?_getD]
  by_cases hx:i < xs.length
  ·rw[if_pos hx,List.getElem?_map,List.getElem?_eq_getElem hx];rfl
  ·rw[if_neg hx,List.getElem?_eq_none (l:=xs) Oa];rw[Nat.add_comm 1 xs.length,List.drop_succ_cons,List.getElem?_drop,List.getElem?_replicate,if_pos Oa];rfl
 refine⟨?_,fun i hi=>key i Oa,?_⟩
 ·unfold splice;rfl
 ·have:=key 12 Oa;rw[this];unfold cI;rw[List.getD_eq_getElem?_getD,List.getElem?_eq_none Oa];rfl
theorem pK{w:World}{k:Nat}{a b c d a' b' c' d':Value}{t:TypeId}(h:w.heap[k]?=some (.cells #[a,b,c,d] t (0,0))):((((w.setCell ⟨k,0,none⟩ a').setCell ⟨k,1,none⟩ b').setCell ⟨k,2,none⟩ c').setCell ⟨k,3,none⟩ d').heap[k]?=some (.cells #[a',b',c',d'] t (0,0)):=
 aM (o:=3) d' (aM (o:=2) c' (aM (o:=1) b' (aM (o:=0) a' h)))
theorem aML{w:World}{k:Nat}{a b c d:Value}:∀ i,i≠k->((((w.setCell ⟨k,0,none⟩ a).setCell ⟨k,1,none⟩ b).setCell ⟨k,2,none⟩ c).setCell ⟨k,3,none⟩ d).heap[i]?=w.heap[i]?:=fun _ hi=>
 (((Om hi).trans (Om hi)).trans (Om hi)).trans (Om hi)
theorem dP{w:World}{k:Nat}{a b c d:Value}{t:TypeId}(h:w.heap[k]?=some (.cells #[a,b,c,d] t (0,0))):w.cell? ⟨k,0,none⟩=some a/\w.cell? ⟨k,1,none⟩=some b/\w.cell? ⟨k,2,none⟩=some c/\w.cell? ⟨k,3,none⟩=some d/\∀ o,w.frozen? ⟨k,o,none⟩=false:=
 ⟨Og h rfl,Og h rfl,Og h rfl,Og h rfl,fun o=>by simp[World.frozen?,h]⟩
theorem RnW.four{B pb rb:Nat}{r:Rn}{w:World}(h:RnW B pb rb r w):∃ ao n cp,w.cell? ⟨rb,387,none⟩=some (.int .i64 r.fin)/\w.cell? ⟨rb,388,none⟩=some (.int .i64 0)/\w.cell? ⟨rb,389,none⟩=some (.int .i64 r.site)/\w.cell? ⟨rb,390,none⟩=some (.slice ao n cp)/\w.ownsRow B 2 1 (.slice ao n cp) r.outs.length (r.outs.map (Value.int .i64)):=by
 obtain⟨cs,vO,hc,h1,h2⟩:=h.ex;obtain⟨ao,cp,rfl,_⟩:=eQ h2;exact⟨ao,_,cp,Og hc h1.fin,Og hc h1.value,Og hc h1.site,Og hc h1.outs,h2⟩
theorem nT{w W:World}{x:Rs4}{vO a b c d:Value}(hk:W.heap[w.heap.size]?=some (.cells #[a,b,c,d] 42 (0,0)))(hB:Below w.heap.size w W)(ho:W.ownsRow w.heap.size 2 1 vO x.outs.length (x.outs.map (Value.int .i64))):
 sO x w (.returned (.agg #[.int .i64 x.fin,.int .i64 x.value,.int .i64 x.site,vO])) ((((W.setCell ⟨w.heap.size,0,none⟩ (.int .i64 x.fin)).setCell ⟨w.heap.size,1,none⟩ (.int .i64 x.value)).setCell ⟨w.heap.size,2,none⟩ (.int .i64 x.site)).setCell ⟨w.heap.size,3,none⟩ vO):=
 ⟨vO,rfl,cD ho (fun k h0=>by
   obtain⟨⟨c2,h1⟩,_⟩:=bEH ho h0;exact aML k (bEF h1 hk Ob)),
   (((hB.setCell (p:=⟨w.heap.size,0,none⟩) Ol _).setCell (p:=⟨w.heap.size,1,none⟩) Ol _).setCell (p:=⟨w.heap.size,2,none⟩) Ol _).setCell (p:=⟨w.heap.size,3,none⟩) Ol _⟩
theorem Wx.below{B rb:Nat}{w u w':World}(h:Wx B rb u w')(hu:Below B w u)(hw:B<=w.heap.size)(hr:B < rb):Below B w w':=
 ⟨h.os.trans hu.os,h.tape.trans hu.tape,h.output.trans hu.output,Qd hu.size h.size,fun k hk=>(h.low k hk Oa (Oi hu.size)).trans (hu.block k hk)⟩
theorem Wy.below{B rb fb:Nat}{w u w':World}(h:Wy B rb fb u w')(hu:Below B w u)(hw:B<=w.heap.size)(hr:B < rb)(hf:B < fb):Below B w w':=
 ⟨h.os.trans hu.os,h.tape.trans hu.tape,h.output.trans hu.output,Qd hu.size h.size,fun k hk=>(h.low k hk Oa Oa (Oi hu.size)).trans (hu.block k hk)⟩
theorem aOE{P:Program}(w:World)(dT sT ty elem:TypeId)(hu:P.underlying dT=some (.slice elem))(h5:(P.info? elem).map (·.size)=some 1)(g off dLen dCap:Nat)(sp:Option Addr)(sLen sCap:Nat)(cur:List Value)(t:TypeId)(hg:w.heap[g]?=some (.cells cur.toArray t (0,0)))(cs:List Value)(hn:cs.length=Nat.min sLen dLen)(h3:0 < cs.length->∃ ad,sp=some ad/\∀ j v,cs[j]?=some v->w.cell? (ad.add j)=some v)(h4:off+cs.length<=cur.length)(h1:∀ v∈cs,v.oneCell'=true):
 ∃ w2,(Builtin.copy_ #[dT,sT] ty #[.slice (some ⟨g,off,none⟩) dLen dCap,.slice sp sLen sCap]).run P w= .ok (goInt cs.length) w2/\w2.heap[g]?=some (.cells (splice cur off cs).toArray t (0,0))/\Below g w w2/\w2.heap.size=w.heap.size:=by
 by_cases h0:cs.length=0
 ·obtain rfl:=List.eq_nil_of_length_eq_zero h0;exact⟨w,run_copy_none (P:=P) w dT sT ty elem _ sp dLen dCap sLen sCap hu h5 (by simpa using hn.symm),by simpa[splice]using hg,Below.refl _ _,rfl⟩
 ·obtain⟨ad,rfl,h2⟩:=h3 Oa;exact⟨_,run_copy_row (P:=P) w dT sT ty elem g off dLen dCap ad sLen sCap cur.toArray t cs hu h5 hg hn h2 (by simpa using h4) h1,by simpa[splice]using setRow_heap w g _ _ t _ hg,below_setRow (Below.refl _ _) Ol _,by simp[World.setRow]⟩
variable {par:Nat->Option Nat} {na:Nat} {al fl:List Tr}
theorem aRF(hF:aCS par na al fl){e0:Tr}{mi:Nat}(he:fl[mi]?=some e0)(pb:Nat)(va:Value)(args:List Int)(fuel:Int)(w:World)(hp:PgX pb al fl w)(hm:w.cell? ⟨pb,3,none⟩=some (.int .i64 (mi:Int)))(ha:xK w va args)(h6:∀ b o a l q,e0= .node b o a l q->Ws 6 l)(h4:gJ e0<=12):
 Calls Tryz.prog 46 #[.pointer (some ⟨pb,0,none⟩),va,.int .i64 fuel] w (sO (nE al fl e0 args fuel) w):=by
 obtain⟨sp,cap,rfl,y7⟩:=ha;obtain⟨f,hf⟩:∃ f:Nat,min (max fuel 0) 20000=(f:Int):=⟨(min (max fuel 0) 20000).toNat,Oa⟩
 have hlt:mi < fl.length:=by
  rcases Qk mi fl.length with h|h
  ·exact h
  ·rw[List.getElem?_eq_none h]at he;cases he
 have hmI:0<=(mi:Int)/\(mi:Int) < (fl.length:Int):=Oa
 obtain⟨o0,z7⟩:∃ o0:Obj,o0= .cells #[.int .i64 0,.int .i64 0,.int .i64 0,.slice none 0 0] 42:=⟨_,rfl⟩;obtain⟨c1,j0⟩:∃ c1:Array Value,c1=(Tryz.zeroCells162.setIfInBounds 0 (Value.pointer (some ⟨pb,0,none⟩))).setIfInBounds 385 (Value.int .i64 f):=⟨_,rfl⟩;have sA:(w.alloc o0).heap.size=w.heap.size+1:=Od
 have sB:((w.alloc o0).alloc (.cells c1 162)).heap.size=w.heap.size+2:=Od
 have bB:∀ i,i < w.heap.size->((w.alloc o0).alloc (.cells c1 162)).heap[i]?=w.heap[i]?:=fun i hi=>(On Oa).trans (On hi)
 have kB:((w.alloc o0).alloc (.cells c1 162)).heap[w.heap.size]?=some (.cells #[.int .i64 0,.int .i64 0,.int .i64 0,.slice none 0 0] 42 (0,0)):=by
  refine(On Oa).trans ?_;rw[z7];exact Qb w _
 have rB:RnW w.heap.size pb (w.heap.size+1) ⟨fun _=>0,f,0,0,0,[]⟩ ((w.alloc o0).alloc (.cells c1 162)):=by
  refine⟨⟨c1,.slice none 0 0,?_,aSE j0,World.ownsRow_nil _ _ _ _⟩,Nat.le_succ _,by show f<=20000;omega,Qe _,Qe _⟩;rw[<-sA];exact Qb _ _
 have BB:Below w.heap.size w ((w.alloc o0).alloc (.cells c1 162)):=((Below.refl _ _).alloc Ol _).alloc Oa _;go_enter Tryz.func46,Tryz.ntmps46
 go_upto_region 2 with fail
 rw[<-z7,<-j0];generalize (w.alloc o0).alloc (.cells c1 162)=wB at*;have rC:RnW w.heap.size pb (w.heap.size+1) ⟨fun _=>0,f,0,0,-1,[]⟩ (wB.setCell ⟨w.heap.size+1,389,none⟩ (.int .i64 (-1))):=rB.put ⟨rB.few.1,rB.few.2.1⟩ rfl (fun cs vO hc=>hc.setSite (-1));have sC:(wB.setCell ⟨w.heap.size+1,389,none⟩ (.int .i64 (-1))).heap.size=w.heap.size+2:=by simp[World.setCell,sB]
 have bC:∀ i,i < w.heap.size->(wB.setCell ⟨w.heap.size+1,389,none⟩ (.int .i64 (-1))).heap[i]?=w.heap[i]?:=fun i hi=>(Om (by show i≠w.heap.size+1;omega)).trans (bB i hi);have kC:=(Below.heap_setCell wB ⟨w.heap.size+1,389,none⟩ (.int .i64 (-1)) w.heap.size (by show w.heap.size≠w.heap.size+1;omega)).trans kB;have BC:Below w.heap.size w (wB.setCell ⟨w.heap.size+1,389,none⟩ (.int .i64 (-1))):=BB.setCell (p:=⟨w.heap.size+1,389,none⟩) (Nat.le_succ _) _;obtain⟨_,_,_,_,g0,z0⟩:=rB.cells;have pC:=hp.next bC;have m9:Hid _:=hp;have m3:=Qg w _ hm;have pm:=(Qf (a:=⟨pb,3,none⟩) (bC pb m3)).trans hm;go_upto_region 3 with fail
 generalize wB.setCell ⟨w.heap.size+1,389,none⟩ (.int .i64 (-1))=wC at*;obtain⟨it,vA,vF,mm,vS,H9,g6,_,d2⟩:=pC.prog;obtain⟨g9,cp9,cb,o9,a9,l9,x9,y9,z9,pw,qb,g1,hgj,e9,d0⟩:=d2.get he
 have pF:wC.cell? ⟨pb,2,none⟩=some (.slice (some ⟨g9,0,none⟩) fl.length cp9):=by
  rw[cell_of_row _ _ _ _ _ _ g6,<-g1];rfl
 have HPC:=pC;have m8:Hid _:=rC;have z2:Hid _:=BC;have HKC:Hid _:=kC
 have HFW:Hid (At wC cb 105 (fun cs=>cs[3]?=some (bCH l9)/\cs[4]?=some (bCH (aU e0))/\cs[5]?=some (bCH (bG e0)))):=by
  obtain⟨cs,hc,_,h3,h4,h5,_⟩:=d0;rw[Hid,e9];exact⟨cs,hc,h3,h4,h5⟩
 have j5:Hid _:=e9;have d9:Hid _:=bC;clear rB sB bB kB BB g0 z0 rC kC BC bC pC g6 d2 g1 d0 e9 hp hm sA z7 j0;go_quiet (fail)
 go_upto_region 5 with fail
 obtain⟨cur,k3⟩:∃ cur:List Value,cur= .pointer (some ⟨w.heap.size+1,0,none⟩)::List.replicate 13 (Value.int .i64 0):=⟨_,rfl⟩;obtain⟨o2,z4⟩:∃ o2:Obj,o2= .cells #[.pointer (some ⟨w.heap.size+1,0,none⟩),.int .i64 0,.int .i64 0,.int .i64 0,.int .i64 0,.int .i64 0,.int .i64 0,.int .i64 0,.int .i64 0,.int .i64 0,.int .i64 0,.int .i64 0,.int .i64 0,.int .i64 0] 165:=⟨_,rfl⟩;have sD:((wC.drewN nq).alloc o2).heap.size=w.heap.size+3:=by simp[sC]
 have nD:∀ i,i < w.heap.size+2->((wC.drewN nq).alloc o2).heap[i]?=wC.heap[i]?:=fun i hi=>Below.heap_alloc (wC.drewN nq) _ _ (by show i < wC.heap.size;omega)
 have fD:((wC.drewN nq).alloc o2).heap[w.heap.size+2]?=some (.cells cur.toArray 165 (0,0)):=by
  have:=Qb (wC.drewN nq) o2;rw[show(wC.drewN nq).heap.size=w.heap.size+2 from sC,z4]at this;rw[k3,z4];exact this
 have rD:=(m8.out.drewN nq).alloc o2;have kD:=(nD _ Oa).trans HKC.out;have bD:Below w.heap.size w ((wC.drewN nq).alloc o2):=Below.alloc (show Below w.heap.size w (wC.drewN nq)from⟨z2.out.1,z2.out.2,z2.out.3,z2.out.4,z2.out.5⟩) (by show w.heap.size<=wC.heap.size;omega) _;rw[<-z4];generalize (wC.drewN nq).alloc o2=wD at*;obtain⟨xs,y6⟩:∃ xs,xs=(args.take 12).map (Value.int .i64):=⟨_,rfl⟩;have z3:xs.length=Nat.min args.length 12:=by rw[y6,List.length_map,List.length_take,Nat.min_comm]
 have j8:0 < xs.length->∃ ad,sp=some ad/\∀ j v,xs[j]?=some v->wD.cell? (ad.add j)=some v:=fun h0=>by
  obtain⟨ad,e1,e2⟩:=y7 (by rw[z3]at h0;have:Nat.min args.length 12<=args.length:=Nat.min_le_left _ _;omega);refine⟨ad,e1,fun j v hj=>?_⟩
  have m5:(args.map (Value.int .i64))[j]?=some v:=by
   rw[y6,List.map_take,List.getElem?_take]at hj
   split at hj
   ·exact hj
   ·cases hj
  have hc:=e2 j v m5;have hl:=Qg w _ hc;exact(Qf ((nD _ Oa).trans (d9.out _ hl))).trans hc
 have j9:∀ v∈xs,v.oneCell'=true:=fun v hv=>by
  rw[y6,List.mem_map]at hv;obtain⟨x,_,rfl⟩:=hv;rfl
 have y8:1+xs.length<=cur.length:=by
  rw[k3,z3];have:Nat.min args.length 12<=12:=Nat.min_le_right _ _;simp only[List.length_cons,List.length_replicate];omega
 obtain⟨w2,z1,g2,b2,s2⟩:=aOE (P:=Tryz.prog) wD 30 30 3 2 Tryz.underlying30 (by kernel_rfl) (w.heap.size+2) 1 12 12 sp args.length cap cur 165 fD xs z3 j8 y8 j9;have m6:goInt xs.length= .int .i64 (xs.length:Int):=rfl;rw[m6]at z1;have p2:∀ i,i < w.heap.size+3->i≠w.heap.size+2->w2.heap[i]?=wD.heap[i]?:=fun i h1 h2=>b2.block i Oa;have r2:=rD.past fD (fun i h1 h2=>p2 i Oa h2);have k2:=(b2.block _ Oa).trans kD
 have m2:FmW (w.heap.size+1) (w.heap.size+2) (cI (args.take 12)) 0 w2:=by
  refine⟨_,g2,?_⟩;rw[k3,y6];exact aGI _ _ (by rw[List.length_take];omega)
 have q2:=m9.out.next (fun i hi=>(b2.block i Oa).trans ((nD i Oa).trans (d9.out i hi)));have BB2:=bD.trans (b2.mono Oa)
 have f2:At w2 cb 105 (fun cs=>cs[3]?=some (bCH l9)/\cs[4]?=some (bCH (aU e0))/\cs[5]?=some (bCH (bG e0))):=by
  obtain⟨cs,hc,h3⟩:=HFW.out
  exact⟨cs,by
   have hl:=(Oo hc);exact(b2.block cb Oa).trans ((nD cb Oa).trans hc),h3⟩
 have m1:=h6 _ _ _ _ _ j5.out;obtain⟨ao,cpp,g3⟩:=m1.lstval Ou;have g7:gJ e0=aD l9:=by rw[j5.out];rfl
 have c3:w2.cell? ⟨cb,3,none⟩=some (.slice ao (aD l9) cpp):=by
  obtain⟨cs,hc,h3,_⟩:=f2;rw[cell_of_row _ _ _ _ _ _ hc,<-g3];exact h3
 have hX:nE al fl e0 args fuel=(if args.length≠gJ e0\/tkW (cI args) (aU e0)=false then⟨5,0,-1,[]⟩else(if(enD (bCG al) fl (f+1) e0 (cI args) ⟨fun _=>0,f,0,0,-1,[]⟩).2.fin=0 then⟨1,(enD (bCG al) fl (f+1) e0 (cI args) ⟨fun _=>0,f,0,0,-1,[]⟩).1,(enD (bCG al) fl (f+1) e0 (cI args) ⟨fun _=>0,f,0,0,-1,[]⟩).2.site,(enD (bCG al) fl (f+1) e0 (cI args) ⟨fun _=>0,f,0,0,-1,[]⟩).2.outs⟩else⟨(enD (bCG al) fl (f+1) e0 (cI args) ⟨fun _=>0,f,0,0,-1,[]⟩).2.fin,0,(enD (bCG al) fl (f+1) e0 (cI args) ⟨fun _=>0,f,0,0,-1,[]⟩).2.site,(enD (bCG al) fl (f+1) e0 (cI args) ⟨fun _=>0,f,0,0,-1,[]⟩).2.outs⟩)):=by
  unfold nE;rw[hf,Int.toNat_natCast];rfl
 have z5:Hid _:=hX;have d6:Hid _:=g7;have j1:aD l9<=12:=Oa
 have j6:Hid _:=BB2;have d4:Hid _:=r2;have j4:Hid _:=k2;have HM2:Hid _:=m2;have d5:Hid _:=q2;have d8:Hid _:=f2;clear hX BB2 r2 k2 m2 q2 f2 p2 g2 b2 fD kD rD bD nD z3 j8 j9 y8 k3 y6 z4 g3 y7 g7 sC sD
 by_cases h9:args.length=aD l9
 ·have tl:((args.length:Int)!=(aD l9:Int))=false:=by simp;omega
  have g4:args.take 12=args:=List.take_of_length_le Oa;have X2:XW w.heap.size pb (w.heap.size+1) (w.heap.size+2) (f+1) al fl (cI args) 0 ⟨fun _=>0,f,0,0,-1,[]⟩ w2:=⟨d4.out,by rw[<-g4];exact HM2.out,d5.out,⟨Qe _,by show 0+f<=20000;omega,Nat.le_succ _⟩⟩;have k1:=Qi he;have i2:=d5.out.fns e0 k1
  have iw:IsT w2 (aU e0)/\IsT w2 (bG e0):=by
   rw[j5.out]at i2 ⊢;exact⟨i2.2.1.1,i2.2.1.2.1⟩
  have c4:w2.cell? ⟨cb,4,none⟩=some (bCH (aU e0)):=by
   obtain⟨cs,hc,_,h4,_⟩:=d8.out;rw[cell_of_row _ _ _ _ _ _ hc];exact h4
  have k8:=aH9 (hF.fns e0 k1).1 (aIQ (B:=w.heap.size) (pb:=pb) hF (f+1) k1) w2 X2 iw.1 c4;have j2:Hid _:=X2;have HIB:Hid (IsT w2 (bG e0)):=iw.2;have d3:=aKH (B:=w.heap.size) (pb:=pb) hF (f+1) e0 k1;have HEN:Hid _:=d3;clear X2 iw i2 c4 d3 g4;cases hk:tkW (cI args) (aU e0)
  ·have k0:Hid (nE al fl e0 args fuel=⟨5,0,-1,[]⟩):=by rw[Hid,z5.out,if_pos (.inr hk)]
   rw[hk]at k8;clear hk h9 j1 h4;go_wp2_with fail
   refine k8.mono ?_;rintro e W3 ⟨rfl,h3,x3⟩;have k9:=pD 5 W3 h3;have j3:Hid _:=x3.block _ _ _ j4.out Oa Ob;have j7:Hid _:=x3.below j6.out Ol (Nat.lt_succ_self _);clear h3 x3 k8;go_wp2_with fail
   refine k9.mono ?_;rintro e W4 ⟨rfl,h4,x4⟩;have k4:=x4.block _ _ _ j3.out Oa Ob;have b4:=x4.below j7.out Ol (Nat.lt_succ_self _);have h4:RnW w.heap.size pb (w.heap.size+1) ⟨fun _=>0,f,0,5,-1,[]⟩ W4:=h4;obtain⟨so,sn,sc,e0',e1,e2,e3,h7⟩:=h4.four;dsimp only at e0' e2;obtain⟨y0,y1,y2,y3,yz⟩:=dP k4;obtain⟨x0,x1,x2,x3,_⟩:=dP (pK (a':= .int .i64 5) (b':= .int .i64 0) (c':= .int .i64 (-1)) (d':= .slice so sn sc) k4);have FIN:Hid _:=nT (x:=⟨5,0,-1,[]⟩) k4 b4 h7;clear h4 x4 k4 b4 h7;go_wp2;refine bodyPost_ret (v:= .agg #[.int .i64 5,.int .i64 0,.int .i64 (-1),.slice so sn sc]) (by simp[results,Tryz.results46,go_sem,x0,x1,x2,x3]) rfl ?_;rw[k0.out];exact FIN.out
  ·have k0:Hid _:=z5.out
   have g8: ¬(args.length≠gJ e0\/tkW (cI args) (aU e0)=false):=by
    rw[hk,d6.out];simp[h9]
   have k0:Hid (nE al fl e0 args fuel=_):=z5.out.trans (if_neg g8);rw[hk]at k8;generalize hx:enD (bCG al) fl (f+1) e0 (cI args) ⟨fun _=>0,f,0,0,-1,[]⟩=x at*;clear hk h9 j1 h4 g8;go_wp2_with fail
   refine k8.mono ?_;rintro e W3 ⟨rfl,h3,x3⟩;have X3:=j2.out.wx h3 x3 (Mn.refl _);have b3:IsT W3 (bG e0):=IsT.wx j2.out.rn x3 HIB.out;obtain⟨cs7,d1,_,_,g5⟩:=At.wx d8.out j2.out.rn x3 Ob Ob;have z8:=HEN.out (w.heap.size+1) (w.heap.size+2) cb (cI args) _ W3 X3 b3 ⟨cs7,d1,g5⟩;rw[hx]at z8;have j3:Hid _:=x3.block _ _ _ j4.out Oa Ob;have j7:Hid _:=x3.below j6.out Ol (Nat.lt_succ_self _);clear X3 b3 d1 g5 h3 x3 k8;go_wp2_with fail
   refine z8.mono ?_;rintro e W4 ⟨rfl,h4,y4⟩;have y5:=nM W4 h4;have k4:=y4.block _ _ _ j3.out Oa Oa Ob;have b4:=y4.below j7.out Ol (Nat.lt_succ_self _) Oa;have d7:Hid _:=h4;have z6:Hid _:=k4;have m0:Hid _:=b4;clear y4 z8 k4 b4 h4
   by_cases h8:x.2.fin=0
   ·have tf:(x.2.fin !=0)=false:=by simp[h8]
    rw[tf]at y5;have k0:Hid (nE al fl e0 args fuel=_):=k0.out.trans (if_pos h8);have HS:Hid (x.2.stop 1={x.2 with fin:=1}):=if_pos h8;clear h8 hx;go_wp2_with fail
    refine y5.mono ?_;rintro e W5 ⟨rfl,rfl⟩;have k9:=pD 1 W4 d7.out;clear y5;go_wp2_with fail
    refine k9.mono ?_;rintro e W6 ⟨rfl,h6,x6⟩;rw[HS.out]at h6;have k6:=x6.block _ _ _ z6.out Oa Ob;have b6:=x6.below m0.out Ol (Nat.lt_succ_self _);obtain⟨so,sn,sc,e0',e1,e2,e3,h7⟩:=h6.four;obtain⟨_,_,_,_,_,rz⟩:=h6.cells
    obtain⟨ra,rbb,rc,rd,rz2⟩:(W6.setCell ⟨w.heap.size+1,388,none⟩ (.int .i64 x.1)).cell? ⟨w.heap.size+1,387,none⟩=some (.int .i64 1)/\(W6.setCell ⟨w.heap.size+1,388,none⟩ (.int .i64 x.1)).cell? ⟨w.heap.size+1,388,none⟩=some (.int .i64 x.1)/\(W6.setCell ⟨w.heap.size+1,388,none⟩ (.int .i64 x.1)).cell? ⟨w.heap.size+1,389,none⟩=some (.int .i64 x.2.site)/\(W6.setCell ⟨w.heap.size+1,388,none⟩ (.int .i64 x.1)).cell? ⟨w.heap.size+1,390,none⟩=some (.slice so sn sc)/\∀ o,(W6.setCell ⟨w.heap.size+1,388,none⟩ (.int .i64 x.1)).frozen? ⟨w.heap.size+1,o,none⟩=false:=by
     obtain⟨cs,vO',hc,h1,_⟩:=h6.ex;have hs:=aM (o:=388) (.int .i64 x.1) hc;have ee:cs[390]?=some (.slice so sn sc):=by rw[cell_of_row _ _ _ _ _ _ hc]at e3;exact e3
     exact⟨Og hs (bT Oa h1.fin),Og hs (nX h1.value),Og hs (bT Oa h1.site),Og hs (bT Oa ee),fun o=>by simp[World.frozen?,hs]⟩
    have k7:=(Below.heap_setCell W6 ⟨w.heap.size+1,388,none⟩ (.int .i64 x.1) w.heap.size (by show w.heap.size≠w.heap.size+1;omega)).trans k6;have b7:Below w.heap.size w (W6.setCell ⟨w.heap.size+1,388,none⟩ (.int .i64 x.1)):=b6.setCell (p:=⟨w.heap.size+1,388,none⟩) (Nat.le_succ _) _
    have k5:(W6.setCell ⟨w.heap.size+1,388,none⟩ (.int .i64 x.1)).ownsRow w.heap.size 2 1 (.slice so sn sc) x.2.outs.length (x.2.outs.map (Value.int .i64)):=cD h7 (fun k m4=>by
     obtain⟨⟨c2,m7⟩,_⟩:=bEH h7 m4;obtain⟨cs,vO',hc,h1,_⟩:=h6.ex;exact Om (bEF m7 hc Ob))
    clear e0' e2 e3 h7 h6 x6 k6 b6 k9;go_upto_region 13 with fail
    generalize W6.setCell ⟨w.heap.size+1,388,none⟩ (.int .i64 x.1)=W7 at*;obtain⟨y0,y1,y2,y3,yz⟩:=dP k7;obtain⟨x0,x1,x2,x3,_⟩:=dP (pK (a':= .int .i64 1) (b':= .int .i64 x.1) (c':= .int .i64 x.2.site) (d':= .slice so sn sc) k7);have FIN:Hid _:=nT (x:=⟨1,x.1,x.2.site,x.2.outs⟩) k7 b7 k5;clear k7 b7 k5;go_wp2;refine bodyPost_ret (v:= .agg #[.int .i64 1,.int .i64 x.1,.int .i64 x.2.site,.slice so sn sc]) (by simp[results,Tryz.results46,go_sem,x0,x1,x2,x3]) rfl ?_;rw[k0.out];exact FIN.out
   ·have tf:(x.2.fin !=0)=true:=by simp[h8]
    rw[tf]at y5;have k0:Hid (nE al fl e0 args fuel=_):=k0.out.trans (if_neg h8);obtain⟨so,sn,sc,e0',e1,e2,e3,h7⟩:=d7.out.four;obtain⟨y0,y1,y2,y3,yz⟩:=dP z6.out;obtain⟨x0,x1,x2,x3,_⟩:=dP (pK (a':= .int .i64 x.2.fin) (b':= .int .i64 0) (c':= .int .i64 x.2.site) (d':= .slice so sn sc) z6.out);have FIN:Hid _:=nT (x:=⟨x.2.fin,0,x.2.site,x.2.outs⟩) z6.out m0.out h7;clear h7 h8 hx;go_wp2_with fail
    refine y5.mono ?_;rintro e W5 ⟨rfl,rfl⟩;clear y5;go_wp2;refine bodyPost_ret (v:= .agg #[.int .i64 x.2.fin,.int .i64 0,.int .i64 x.2.site,.slice so sn sc]) (by simp[results,Tryz.results46,go_sem,x0,x1,x2,x3]) rfl ?_;rw[k0.out];exact FIN.out
 ·have tl:((args.length:Int)!=(aD l9:Int))=true:=by simp;omega
  have k0:Hid (nE al fl e0 args fuel=⟨5,0,-1,[]⟩):=by rw[Hid,z5.out,if_pos (.inl (by rw[d6.out];exact h9))]
  have k9:=pD 5 w2 d4.out;clear h9 j1 h4;go_wp2_with fail
  refine k9.mono ?_;rintro e W4 ⟨rfl,h4,x4⟩;have k4:=x4.block _ _ _ j4.out Oa Ob;have b4:=x4.below j6.out Ol (Nat.lt_succ_self _);have h4:RnW w.heap.size pb (w.heap.size+1) ⟨fun _=>0,f,0,5,-1,[]⟩ W4:=h4;obtain⟨so,sn,sc,e0',e1,e2,e3,h7⟩:=h4.four;dsimp only at e0' e2;obtain⟨y0,y1,y2,y3,yz⟩:=dP k4;obtain⟨x0,x1,x2,x3,_⟩:=dP (pK (a':= .int .i64 5) (b':= .int .i64 0) (c':= .int .i64 (-1)) (d':= .slice so sn sc) k4);have FIN:Hid _:=nT (x:=⟨5,0,-1,[]⟩) k4 b4 h7;clear h4 x4 k4 b4 h7;go_wp2;refine bodyPost_ret (v:= .agg #[.int .i64 5,.int .i64 0,.int .i64 (-1),.slice so sn sc]) (by simp[results,Tryz.results46,go_sem,x0,x1,x2,x3]) rfl ?_;rw[k0.out];exact FIN.out
end
section
open Go.RowKit Go.Lib Go.Deep Go.ChangeMaps Go.MapKept
theorem aN2{w:World}{b b' n sz:Nat}{e:TypeId}{v:Value}{xs:List Value}(h:w.ownsRow b e sz v n xs)(hb:b'<=b):w.ownsRow b' e sz v n xs:=by
 refine⟨h.1,?_⟩;rcases h.2 with h2|⟨g,cap,cur,h1,h2,h3⟩
 ·exact .inl h2
 ·exact .inr ⟨g,cap,cur,h1,Qd hb h2,h3⟩
theorem xK.next{w w':World}{va:Value}{args:List Int}(h:xK w va args)(hw:∀ i,i < w.heap.size->w'.heap[i]?=w.heap[i]?):xK w' va args:=by
 obtain⟨sp,cap,e,h1⟩:=h;refine⟨sp,cap,e,fun h0=>?_⟩;obtain⟨ad,e2,h2⟩:=h1 h0;exact⟨ad,e2,fun j v hj=>(Qf (hw _ (Qg w _ (h2 j v hj)))).trans (h2 j v hj)⟩
theorem yZ(ab pb:Nat)(w:World)(h:w.cell? ⟨ab,1,none⟩=some (.pointer (some ⟨pb,0,none⟩))):Calls Tryz.prog 45 #[.pointer (some ⟨ab,0,none⟩)] w fun e w'=>e= .returned (.bool false)/\w=w':=by
 go_enter Tryz.func45,Tryz.ntmps45
 go_wp2;go_ret;exact⟨rfl,rfl⟩
theorem aUH{H g cap pb:Nat}{s:ByteArray}{t:Tr}{vA vF vS:Value}{w:World}(h:Pg0 H g cap pb s t vA vF vS w)(hc:(eZ s).1=0){va:Value}{args:List Int}(ha:xK w va args)(fuel:Int):Calls Tryz.prog 46 #[.pointer (some ⟨pb,0,none⟩),va,.int .i64 fuel] w (sO (kM s args fuel) w):=by
 have hg:=good h.er hc;obtain⟨j,hj,hm⟩:=hg.main;rw[aH3 h.er];have h1:=Qi hm;obtain⟨b,o,a,l,x,y,z,p,q,e1,h17,hl,_⟩:=hg.fl h1;refine aRF hg.flok hm pb va args fuel w (h.pgx hg) ?_ ha (fun b' o' a' l' q' e=>?_) ?_
 ·rw[cell_of_row _ _ _ _ _ _ h.prog,<-hj];rfl
 ·rw[e1]at e;cases e;exact hl
 ·have h2:=h1;unfold gG at h2;rw[hg.el]at h2;obtain⟨e0,S,h0,e2⟩:=mM hg.si h2;obtain⟨b',o',a',l',x',y',z',p',q',e3,_,_,_,_,h4⟩:=hg.ok.fns e0 h0;rw[e2,yR,e3];show aD l'<=12;omega
theorem aA5{ab:Nat}{s:ByteArray}{w:World}(h:PgW ab s w)(hc:(eZ s).1=0){va:Value}{args:List Int}(ha:xK w va args)(fuel:Int):Calls Tryz.prog 21 #[.pointer (some ⟨ab,0,none⟩),va,.int .i64 fuel] w (sO (kM s args fuel) w):=by
 obtain⟨H,g,cap,pb,t,vA,vF,vS,h2,hp⟩:=h.ex;obtain⟨o0,h1⟩:∃ o0:Obj,o0= .cells #[.int .i64 0,.int .i64 0,.int .i64 0,.slice none 0 0] 42:=⟨_,rfl⟩;have sA:(w.alloc o0).heap.size=w.heap.size+1:=Od
 have nA:∀ i,i < w.heap.size->(w.alloc o0).heap[i]?=w.heap[i]?:=fun i hi=>On hi
 have kA:(w.alloc o0).heap[w.heap.size]?=some (.cells #[.int .i64 0,.int .i64 0,.int .i64 0,.slice none 0 0] 42 (0,0)):=by
  rw[h1];exact Qb w _
 have hR:=aUH (hp.next nA) hc (ha.next nA) fuel
 have c1:(w.alloc o0).cell? ⟨ab,1,none⟩=some (.pointer (some ⟨pb,0,none⟩)):=by
  rw[cell_of_row _ _ _ _ _ _ ((nA ab (Oo h2)).trans h2)];rfl
 have hN:=yZ ab pb _ c1;have bA:Below w.heap.size w (w.alloc o0):=(Below.refl _ _).alloc Ol _;obtain⟨sp,cp,rfl,_⟩:=ha;generalize kM s args fuel=x at*;clear hp h2 nA;go_enter Tryz.func21,Tryz.ntmps21
 go_upto_region 1 with fail
 rw[<-h1];clear h1;generalize w.alloc o0=wA at*;go_wp2_with fail
 refine hN.mono ?_;rintro e w' ⟨rfl,rfl⟩;clear hN;go_wp2_with fail
 refine hR.mono ?_;rintro e W2 ⟨vO,rfl,h0,b2⟩;obtain⟨so,sc,rfl,_⟩:=eQ h0;have k2:=(b2.block w.heap.size Oa).trans kA;have B2:Below w.heap.size w W2:=bA.trans (b2.mono Oa);obtain⟨y0,y1,y2,y3,yz⟩:=dP k2;obtain⟨x0,x1,x2,x3,_⟩:=dP (pK (a':= .int .i64 x.fin) (b':= .int .i64 x.value) (c':= .int .i64 x.site) (d':= .slice so x.outs.length sc) k2);have FIN:Hid _:=nT (x:=x) k2 B2 (aN2 h0 Oa);clear h0 b2 k2 B2 hR kA bA;go_wp2;refine bodyPost_ret (v:= .agg #[.int .i64 x.fin,.int .i64 x.value,.int .i64 x.site,.slice so x.outs.length sc]) (by simp[results,Tryz.results21,go_sem,x0,x1,x2,x3]) rfl ?_;exact FIN.out
def aCR(w:World)(v:Value)(xs:List Int):Prop:=∃ ao cp,v= .slice ao xs.length cp/\xs.length<=maxLen/\(0 < xs.length->∃ g,ao=some ⟨g,0,none⟩/\∀ i,i < xs.length->w.cell? ⟨g,i,none⟩=some (.int .i64 (xs.getD i 0)))
theorem aMO{w:World}{B:Nat}{v:Value}{xs:List Int}(h:w.ownsRow B 2 1 v xs.length (xs.map (Value.int .i64))):aCR w v xs:=by
 have h1:xs.length<=maxLen:=by
  rcases h.2 with⟨_,h2⟩|⟨g,cap,cur,_,_,_,h3,h4,_⟩
  ·omega
  ·exact Qd h3 h4
 obtain⟨ao,cp,rfl,h2⟩:=eQ h;refine⟨ao,cp,rfl,h1,fun h0=>?_⟩;obtain⟨g,rfl⟩:=h2.resolve_left Oa;refine⟨g,rfl,fun i hi=>?_⟩;rw[h.cellAt i Oa,List.getElem?_map,List.getElem?_eq_getElem hi,List.getD_eq_getElem?_getD,List.getElem?_eq_getElem hi];rfl
theorem aCR.next{w w':World}{v:Value}{xs:List Int}(h:aCR w v xs)(hw:∀ i,i < w.heap.size->w'.heap[i]?=w.heap[i]?):aCR w' v xs:=by
 obtain⟨ao,cp,e,h3,h1⟩:=h;refine⟨ao,cp,e,h3,fun h0=>?_⟩;obtain⟨g,e2,h2⟩:=h1 h0;exact⟨g,e2,fun i hi=>(Qf (hw _ (Qg w _ (h2 i hi)))).trans (h2 i hi)⟩
def xH(w w':World):Prop:=w'.heap=w.heap/\w'.os=w.os/\w'.tape=w.tape/\w'.output=w.output
theorem xH.refl(w:World):xH w w:=⟨rfl,rfl,rfl,rfl⟩
theorem xH.below{w w':World}(h:xH w w')(B:Nat):Below B w w':=⟨h.2.1,h.2.2.1,h.2.2.2,by rw[h.1];exact Qc _,fun k _=>by rw[h.1]⟩
theorem xH.drewN{w w':World}(h:xH w w')(n:Nat):xH w (w'.drewN n):=h
theorem aCR.still{w w':World}{v:Value}{xs:List Int}(h:aCR w v xs)(hs:xH w w'):aCR w' v xs:=h.next (fun i _=>by rw[hs.1])
theorem aMU(c n:Int)(w:World)(hc:-9223372036854775808<=c/\c<=9223372036854775807)(hn:0 < n/\n<=1000000):Calls Tryz.prog 20 #[.int .i64 c,.int .i64 n] w fun e w'=>(∃ v,e= .returned (.int .i64 v)/\0<=v/\v < n/\(0<=c->v=c % n))/\w=w':=by
 have hz:(n==0)=false:=by simp;omega
 by_cases h0:c < 0
 ·have t0:decide (c < 0)=true:=by simp[h0]
  have hw:IntKind.i64.wrap (c+1)=c+1:=IntWalk.i64_in _ Oa;have hw2:IntKind.i64.wrap (-(c+1))= -(c+1):=IntWalk.i64_in _ Oa;have hm:=Int.tmod_nonneg n (a:=-(c+1)) Oa;have h1:=Int.tmod_lt_of_pos (-(c+1)) (b:=n) Oa;rw[Int.neg_tmod]at hm h1;go_enter Tryz.func20,Tryz.ntmps20
  go_wp2;go_ret;exact⟨⟨_,rfl,hm,h1,fun h=>Oa⟩,rfl⟩
 ·have t0:decide (c < 0)=false:=by simp;omega
  have hm:=Int.emod_nonneg c (b:=n) Oa;have h1:=Int.emod_lt_of_pos c (b:=n) Oa;go_enter Tryz.func20,Tryz.ntmps20
  go_wp2;go_ret;exact⟨⟨_,rfl,hm,h1,by intros;rfl⟩,rfl⟩
theorem bD6(xs ys:List Int):xs <+:ys↔xs.length<=ys.length/\∀ i,i < xs.length->xs.getD i 0=ys.getD i 0:=by
 constructor
 ·intro h;obtain⟨t,rfl⟩:=h;refine⟨Od,fun i hi=>?_⟩;rw[List.getD_eq_getElem?_getD,List.getD_eq_getElem?_getD,List.getElem?_append_left hi]
 ·intro⟨h1,h2⟩;rw[List.prefix_iff_eq_take];apply List.ext_getElem
  ·rw[List.length_take];omega
  ·intro i hi hi2;have:=h2 i hi;rw[List.getD_eq_getElem?_getD,List.getD_eq_getElem?_getD,List.getElem?_eq_getElem hi,List.getElem?_eq_getElem Oa]at this;rw[List.getElem_take];exact this
theorem bD4(xs ys:List Int)(va vb:Value)(w:World)(ha:aCR w va xs)(hb:aCR w vb ys)(c:Bool)(hc:c=true↔xs <+:ys):Calls Tryz.prog 23 #[va,vb] w fun e w'=>e= .returned (.bool c)/\xH w w':=by
 have HA:Hid (aCR w va xs):=ha;have HB:Hid (aCR w vb ys):=hb;obtain⟨ao,cp,rfl,h7,ha⟩:=ha;obtain⟨bo,cq,rfl,_,hb⟩:=hb;have hmi:(xs.length:Int)<=9223372036854775807:=by unfold maxLen at h7;omega
 rw[bD6]at hc
 by_cases hl:xs.length<=ys.length
 ·have h8: ¬(ys.length:Int) < (xs.length:Int):=Oa
  have L0:∃ i:Nat,Value.int .i64 0= .int .i64 i/\i<=xs.length/\xs.length<=i+xs.length/\(∀ j,j < i->xs.getD j 0=ys.getD j 0)/\xH w w:=⟨0,rfl,Qe _,Oa,fun j h=>Oa,xH.refl _⟩;have HC:Hid _:=hc;have HL:Hid (xs.length<=ys.length):=hl;clear ha hb hc;go_enter Tryz.func23,Tryz.ntmps23
  go_wp2_with fail
  go_loopg [5] xs.length (fun m v wr=>∃ i:Nat,v= .int .i64 i/\i<=xs.length/\xs.length<=i+m/\(∀ j,j < i->xs.getD j 0=ys.getD j 0)/\xH w wr)
  case atStart=>exact L0
  case round=>
   clear L0;obtain⟨i,rfl,hle,hm,h0,hs⟩:=hrel;have HS:Hid _:=hs
   by_cases h5:i < xs.length
   ·have h3:(i:Int) < (xs.length:Int):=Oa
    obtain⟨_,_,e1,_,h1⟩:=HA.out.still hs;obtain⟨_,_,e2,_,h2⟩:=HB.out.still hs;cases e1;cases e2;obtain⟨g1,rfl,c1⟩:=h1 Oa;obtain⟨g2,rfl,c2⟩:=h2 Oa;have n1:=c1 i h5;have n2:=c2 i Oa;have b1:0<=(i:Int)/\(i:Int) < (xs.length:Int):=Oa
    have b2:0<=(i:Int)/\(i:Int) < (ys.length:Int):=Oa
    have h6:Hid _:=h0;clear c1 c2 h1 h2 hs h0
    by_cases he:xs.getD i 0=ys.getD i 0
    ·have fin:∀ n m,xs.length<=i+(m+1)->∃ i':Nat,Value.int .i64 ((i:Int)+1)= .int .i64 i'/\i'<=xs.length/\xs.length<=i'+m/\(∀ j,j < i'->xs.getD j 0=ys.getD j 0)/\xH w (wr.drewN n):=fun n m h=>by
      refine⟨i+1,Od,Oa,Oa,fun j hj=>?_,xH.drewN HS.out n⟩
      by_cases e:j=i
      ·rw[e];exact he
      ·exact h6.out j Oa
     have FIN:Hid _:=fin;generalize xs.getD i 0=V1 at*;generalize ys.getD i 0=V2 at*;have tn:(V1 !=V2)=false:=by simp[he]
     clear he fin;obtain⟨m,rfl⟩:=Oj gk;go_wp2_with fail
     go_quiet (fail)
     go_wp2;go_roundg m
     case rel=>exact FIN.out _ m hm
     case measure=>omega
    ·have h4:Hid (c=false):=by
      rw[Hid];cases c
      ·rfl
      ·exact absurd ((HC.out.1 rfl).2 i h5) he
     generalize xs.getD i 0=V1 at*;generalize ys.getD i 0=V2 at*;have tn:(V1 !=V2)=true:=by simp[he]
     clear he;go_wp2_with fail
     go_quiet (fail)
     go_wp2;go_ret;exact⟨bX h4.out.symm,xH.drewN HS.out _⟩
   ·have h3: ¬(i:Int) < (xs.length:Int):=Oa
    have h9:Hid (c=true):=HC.out.2 ⟨HL.out,fun j hj=>h0 j Oa⟩;clear hs h0;go_wp2;go_ret;exact⟨bX h9.out.symm,HS.out⟩
 ·have h8:(ys.length:Int) < (xs.length:Int):=Oa
  have h4:Hid (c=false):=by
   rw[Hid];cases c
   ·rfl
   ·exact absurd (hc.1 rfl).1 hl
  clear ha hb hc hl;go_enter Tryz.func23,Tryz.ntmps23
  go_wp2;go_ret;exact⟨bX h4.out.symm,xH.refl _⟩
def R4W(w:World)(x:Rs4)(v:Value):Prop:=∃ vO,v= .agg #[.int .i64 x.fin,.int .i64 x.value,.int .i64 x.site,vO]/\aCR w vO x.outs
theorem R4W.next{w w':World}{x:Rs4}{v:Value}(h:R4W w x v)(hw:∀ i,i < w.heap.size->w'.heap[i]?=w.heap[i]?):R4W w' x v:=by
 obtain⟨vO,e,h1⟩:=h;exact⟨vO,e,h1.next hw⟩
theorem sO.rs{x:Rs4}{w w':World}{e:Ending}(h:sO x w e w'):∃ v,e= .returned v/\R4W w' x v/\Below w.heap.size w w':=by
 obtain⟨vO,e1,h1,h2⟩:=h;exact⟨_,e1,⟨vO,rfl,aMO h1⟩,h2⟩
theorem aRO(x y:Rs4):x=y↔x.fin=y.fin/\x.value=y.value/\x.site=y.site/\x.outs=y.outs:=by
 cases x;cases y;simp
theorem bD9(x y:Rs4)(va vb:Value)(w:World)(ha:R4W w x va)(hb:R4W w y vb)(c:Bool)(hc:c=true↔x=y):Calls Tryz.prog 22 #[va,vb] w fun e w'=>e= .returned (.bool c)/\Below w.heap.size w w':=by
 obtain⟨v1,rfl,ha⟩:=ha;obtain⟨v2,rfl,hb⟩:=hb;obtain⟨a1,n1,p1,rfl⟩:∃ a n p,v1= .slice a n p:=by obtain⟨ao,cp,e,_⟩:=ha;exact⟨_,_,_,e⟩
 obtain⟨a2,n2,p2,rfl⟩:∃ a n p,v2= .slice a n p:=by obtain⟨ao,cp,e,_⟩:=hb;exact⟨_,_,_,e⟩
 have k3:n1=x.outs.length:=by obtain⟨ao,cp,e,_⟩:=ha;cases e;rfl
 have k0:n2=y.outs.length:=by obtain⟨ao,cp,e,_⟩:=hb;cases e;rfl
 rw[aRO]at hc;obtain⟨o1,h4⟩:∃ o1:Obj,o1= .cells #[.int .i64 x.fin,.int .i64 x.value,.int .i64 x.site,.slice a1 n1 p1] 42:=⟨_,rfl⟩;obtain⟨o2,h0⟩:∃ o2:Obj,o2= .cells #[.int .i64 y.fin,.int .i64 y.value,.int .i64 y.site,.slice a2 n2 p2] 42:=⟨_,rfl⟩;have sA:(w.alloc o1).heap.size=w.heap.size+1:=Od
 have nB:∀ i,i < w.heap.size->((w.alloc o1).alloc o2).heap[i]?=w.heap[i]?:=fun i hi=>(On Oa).trans (On hi)
 have k1:((w.alloc o1).alloc o2).heap[w.heap.size]?=some (.cells #[.int .i64 x.fin,.int .i64 x.value,.int .i64 x.site,.slice a1 n1 p1] 42 (0,0)):=by
  refine(On Oa).trans ?_;rw[h4];exact Qb w _
 have k2:((w.alloc o1).alloc o2).heap[w.heap.size+1]?=some (.cells #[.int .i64 y.fin,.int .i64 y.value,.int .i64 y.site,.slice a2 n2 p2] 42 (0,0)):=by
  have:=Qb (w.alloc o1) o2;rw[sA]at this;rw[this,h0]
 have bB:Below w.heap.size w ((w.alloc o1).alloc o2):=((Below.refl _ _).alloc Ol _).alloc Oa _;have h8:Hid (Calls Tryz.prog 23 #[.slice a1 n1 p1,.slice a2 n2 p2] ((w.alloc o1).alloc o2) fun e w'=>e= .returned (.bool (decide (x.outs <+:y.outs)))/\xH ((w.alloc o1).alloc o2) w'):=bD4 _ _ _ _ _ (ha.next nB) (hb.next nB) _ Od;obtain⟨x0,x1,x2,x3,_⟩:=dP k1;obtain⟨y0,y1,y2,y3,_⟩:=dP k2;have h9:Hid _:=bB;have h7:Hid _:=k1;have h6:Hid _:=k2;have HN:Hid (n1=x.outs.length/\n2=y.outs.length):=⟨k3,k0⟩;clear ha hb bB k1 k2 nB k3 k0 sA
 have first:∀ {P:Prop},¬P->(c=true↔P)->Hid (c=false):=fun hp h=>by
  rw[Hid];cases c
  ·rfl
  ·exact absurd (h.1 rfl) hp
 by_cases h1:x.fin=y.fin
 ·have t1:(x.fin !=y.fin)=false:=by simp[h1]
  by_cases h2:x.value=y.value
  ·have t2:(x.value !=y.value)=false:=by simp[h2]
   by_cases h3:x.site=y.site
   ·have t3:(x.site !=y.site)=false:=by simp[h3]
    have HC:Hid (c=true↔x.outs=y.outs):=by
     rw[Hid,hc];exact⟨fun h=>h.2.2.2,fun h=>⟨h1,h2,h3,h⟩⟩
    clear hc h1 h2 h3 first
    generalize x.fin=xf at*;generalize y.fin=yf at*;generalize x.value=xv at*;generalize y.value=yv at*;generalize x.site=xs at*;generalize y.site=ys at*;go_enter Tryz.func22,Tryz.ntmps22
    go_upto_region 1 with fail
    rw[<-h4,<-h0];clear h4 h0;generalize (w.alloc o1).alloc o2=wB at*;go_wp2_with fail
    refine h8.out.mono ?_;rintro e W2 ⟨rfl,hs⟩;have HS:Hid (Below w.heap.size w W2):=h9.out.trans (hs.below _);obtain⟨_,_,_,u3,_⟩:=dP (w:=W2) (by rw[hs.1];exact h7.out);obtain⟨_,_,_,v3,_⟩:=dP (w:=W2) (by rw[hs.1];exact h6.out);clear hs x0 x1 x2 x3 y0 y1 y2 y3
    by_cases hp:x.outs <+:y.outs
    ·rw[decide_eq_true hp]
     by_cases hl:n1=n2
     ·have tl:((n1:Int)==(n2:Int))=true:=by simp[hl]
      have k4:Hid (c=true):=HC.out.2 (hp.eq_of_length (by rw[<-HN.out.1,<-HN.out.2];exact hl));clear hp hl;go_wp2;go_ret;exact⟨bX k4.out.symm,HS.out⟩
     ·have tl:((n1:Int)==(n2:Int))=false:=by simp;omega
      have h5:Hid (c=false):=by
       rw[Hid];cases c
       ·rfl
       ·exact absurd (by rw[HN.out.1,HN.out.2,HC.out.1 rfl]) hl
      clear hp hl;go_wp2;go_ret;exact⟨bX h5.out.symm,HS.out⟩
    ·rw[decide_eq_false hp]
     have h5:Hid (c=false):=by
      rw[Hid];cases c
      ·rfl
      ·exact absurd (by rw[HC.out.1 rfl];exact List.prefix_refl _) hp
     clear hp;go_wp2;go_ret;exact⟨bX h5.out.symm,HS.out⟩
   ·have t3:(x.site !=y.site)=true:=by simp[h3]
    have h5:=first (fun h=>h3 h.2.2.1) hc
    clear hc h1 h2 h3 first h8 h7 h6 HN
    generalize x.fin=xf at*;generalize y.fin=yf at*;generalize x.value=xv at*;generalize y.value=yv at*;generalize x.site=xs at*;generalize y.site=ys at*;go_enter Tryz.func22,Tryz.ntmps22
    go_upto_region 1 with fail
    rw[<-h4,<-h0];clear h4 h0;generalize (w.alloc o1).alloc o2=wB at*;go_wp2;go_ret;exact⟨bX h5.out.symm,h9.out⟩
  ·have t2:(x.value !=y.value)=true:=by simp[h2]
   have h5:=first (fun h=>h2 h.2.1) hc
   clear hc h1 h2 first h8 h7 h6 HN
   generalize x.fin=xf at*;generalize y.fin=yf at*;generalize x.value=xv at*;generalize y.value=yv at*;go_enter Tryz.func22,Tryz.ntmps22
   go_upto_region 1 with fail
   rw[<-h4,<-h0];clear h4 h0;generalize (w.alloc o1).alloc o2=wB at*;go_wp2;go_ret;exact⟨bX h5.out.symm,h9.out⟩
 ·have t1:(x.fin !=y.fin)=true:=by simp[h1]
  have h5:=first (fun h=>h1 h.1) hc
  clear hc h1 first h8 h7 h6 HN
  generalize x.fin=xf at*;generalize y.fin=yf at*;go_enter Tryz.func22,Tryz.ntmps22
  go_upto_region 1 with fail
  rw[<-h4,<-h0];clear h4 h0;generalize (w.alloc o1).alloc o2=wB at*;go_wp2;go_ret;exact⟨bX h5.out.symm,h9.out⟩
def isB(x:Rs4)(done:Bool)(value site:Int):Bool:=if done then(x.fin==1&&x.value==value&&x.site==-1)else(x.fin==2&&x.site==site&&x.value==0)
theorem aNS(x:Rs4)(va:Value)(done:Bool)(value site:Int)(w:World)(ha:R4W w x va):Calls Tryz.prog 25 #[va,.bool done,.int .i64 value,.int .i64 site] w fun e w'=>e= .returned (.bool (isB x done value site))/\Below w.heap.size w w':=by
 obtain⟨v1,rfl,ha⟩:=ha;obtain⟨a1,n1,p1,rfl⟩:∃ a n p,v1= .slice a n p:=by obtain⟨ao,cp,e,_⟩:=ha;exact⟨_,_,_,e⟩
 obtain⟨o1,h0⟩:∃ o1:Obj,o1= .cells #[.int .i64 x.fin,.int .i64 x.value,.int .i64 x.site,.slice a1 n1 p1] 42:=⟨_,rfl⟩
 have k1:(w.alloc o1).heap[w.heap.size]?=some (.cells #[.int .i64 x.fin,.int .i64 x.value,.int .i64 x.site,.slice a1 n1 p1] 42 (0,0)):=by
  rw[h0];exact Qb w _
 have h4:Hid (Below w.heap.size w (w.alloc o1)):=(Below.refl _ _).alloc Ol _;obtain⟨x0,x1,x2,x3,_⟩:=dP k1;clear ha k1;generalize hR:isB x done value site=R;have HR:Hid (R=isB x done value site):=hR.symm;clear hR;unfold isB at HR;generalize x.fin=xf at*;generalize x.value=xv at*;generalize x.site=xs at*;cases done
 ·by_cases h1:xf=2
  ·have t1:(xf==2)=true:=by simp[h1]
   by_cases h2:xs=site
   ·have t2:(xs==site)=true:=by simp[h2]
    by_cases h3:xv=0
    ·have t3:(xv==0)=true:=by simp[h3]
     have hc:Hid (R=true):=by rw[Hid,HR.out,t1,t2,t3];rfl
     clear h1 h2 h3 HR;go_enter Tryz.func25,Tryz.ntmps25
     go_upto_region 1 with fail
     rw[<-h0];clear h0;generalize w.alloc o1=wB at*;go_wp2;go_ret;exact⟨bX hc.out.symm,h4.out⟩
    ·have t3:(xv==0)=false:=by simp[h3]
     have hc:Hid (R=false):=by rw[Hid,HR.out,t1,t2,t3];rfl
     clear h1 h2 h3 HR;go_enter Tryz.func25,Tryz.ntmps25
     go_upto_region 1 with fail
     rw[<-h0];clear h0;generalize w.alloc o1=wB at*;go_wp2;go_ret;exact⟨bX hc.out.symm,h4.out⟩
   ·have t2:(xs==site)=false:=by simp[h2]
    have hc:Hid (R=false):=by rw[Hid,HR.out,t1,t2];rfl
    clear h1 h2 HR;go_enter Tryz.func25,Tryz.ntmps25
    go_upto_region 1 with fail
    rw[<-h0];clear h0;generalize w.alloc o1=wB at*;go_wp2;go_ret;exact⟨bX hc.out.symm,h4.out⟩
  ·have t1:(xf==2)=false:=by simp[h1]
   have hc:Hid (R=false):=by rw[Hid,HR.out,t1];rfl
   clear h1 HR;go_enter Tryz.func25,Tryz.ntmps25
   go_upto_region 1 with fail
   rw[<-h0];clear h0;generalize w.alloc o1=wB at*;go_wp2;go_ret;exact⟨bX hc.out.symm,h4.out⟩
 ·by_cases h1:xf=1
  ·have t1:(xf==1)=true:=by simp[h1]
   by_cases h2:xv=value
   ·have t2:(xv==value)=true:=by simp[h2]
    by_cases h3:xs= -1
    ·have t3:(xs==-1)=true:=by simp[h3]
     have hc:Hid (R=true):=by rw[Hid,HR.out,t1,t2,t3];rfl
     clear h1 h2 h3 HR;go_enter Tryz.func25,Tryz.ntmps25
     go_upto_region 1 with fail
     rw[<-h0];clear h0;generalize w.alloc o1=wB at*;go_wp2;go_ret;exact⟨bX hc.out.symm,h4.out⟩
    ·have t3:(xs==-1)=false:=by simp[h3]
     have hc:Hid (R=false):=by rw[Hid,HR.out,t1,t2,t3];rfl
     clear h1 h2 h3 HR;go_enter Tryz.func25,Tryz.ntmps25
     go_upto_region 1 with fail
     rw[<-h0];clear h0;generalize w.alloc o1=wB at*;go_wp2;go_ret;exact⟨bX hc.out.symm,h4.out⟩
   ·have t2:(xv==value)=false:=by simp[h2]
    have hc:Hid (R=false):=by rw[Hid,HR.out,t1,t2];rfl
    clear h1 h2 HR;go_enter Tryz.func25,Tryz.ntmps25
    go_upto_region 1 with fail
    rw[<-h0];clear h0;generalize w.alloc o1=wB at*;go_wp2;go_ret;exact⟨bX hc.out.symm,h4.out⟩
  ·have t1:(xf==1)=false:=by simp[h1]
   have hc:Hid (R=false):=by rw[Hid,HR.out,t1];rfl
   clear h1 HR;go_enter Tryz.func25,Tryz.ntmps25
   go_upto_region 1 with fail
   rw[<-h0];clear h0;generalize w.alloc o1=wB at*;go_wp2;go_ret;exact⟨bX hc.out.symm,h4.out⟩
def lV:ByteArray:={data:=#[102,110,32,109,97,105,110,40,110,41,32,123,32,111,117,116,32,110,59,32,114,101,116,117,114,110,32,56,32,47,32,110,59,32,125]}
theorem vR:eZ lV=(0,0):=by decide+kernel
theorem aS8:(kM lV [3] 9).fin=1/\(kM lV [3] 9).value=2/\(kM lV [3] 9).site= -1/\(kM lV [3] 9).outs=[3]:=by decide+kernel
theorem aS7:(kM lV [0] 9).fin=2/\(kM lV [0] 9).value=0/\(kM lV [0] 9).site=0/\(kM lV [0] 9).outs=[0]:=by decide+kernel
theorem aPN:kM lV [3] 9=⟨1,2,-1,[3]⟩:=(aRO _ _).2 aS8
theorem aPM:kM lV [0] 9=⟨2,0,0,[0]⟩:=(aRO _ _).2 aS7
theorem aF8{w:World}{g n cp:Nat}{args:List Int}{cs:Array Value}{t:TypeId}(h:w.heap[g]?=some (.cells cs t (0,0)))(hc:cs=(args.map (Value.int .i64)).toArray)(hn:n=args.length):xK w (.slice (some ⟨g,0,none⟩) n cp) args:=by
 subst hn;refine⟨_,cp,rfl,fun _=>⟨_,rfl,fun j v hj=>?_⟩⟩;rw[show(⟨g,0,none⟩:Addr).add j=⟨g,j,none⟩by unfold Addr.add;split<;>simp_all];rw[cell_of_row _ _ _ _ _ _ h,hc];simpa using hj
theorem aLH(w:World)(ht:Tab w):Calls Tryz.prog 18 #[] w fun e w'=>e= .returned (.bool true)/\Below w.heap.size w w':=by
 have hr:=aA6 lV w ht (by unfold maxLen;decide);unfold lV at hr;go_enter Tryz.func18,Tryz.ntmps18
 go_wp2_with fail
 refine hr.mono ?_;rintro e W1 ⟨b1,h1⟩;replace h1:=h1.resolve_left (fun h=>h.1 (by have:=vR;unfold lV at this;rw[this]));obtain⟨_,ab,rfl,hp⟩:=h1;obtain⟨oF,k3⟩:∃ o:Obj,o= .cells #[.int .i64 0,.int .i64 0] 37:=⟨_,rfl⟩;obtain⟨o3,h9⟩:∃ o:Obj,o= .cells #[.int .i64 3] 2:=⟨_,rfl⟩;have s1:(W1.alloc oF).heap.size=W1.heap.size+1:=Od
 have n1:∀ i,i < W1.heap.size->((W1.alloc oF).alloc o3).heap[i]?=W1.heap[i]?:=fun i hi=>(On Oa).trans (On hi)
 have a1:xK ((W1.alloc oF).alloc o3) (.slice (some ⟨W1.heap.size+1,0,none⟩) 1 1) [3]:=by
  refine aF8 (cs:=#[.int .i64 3]) (t:=2) ?_ rfl rfl;have:=Qb (W1.alloc oF) o3;rw[s1]at this;rw[this,h9]
 have h5:=aA5 (hp.next n1) (by have:=vR;unfold lV at this;rw[this]) a1 9;have e1:=aPN;have e2:=aPM;unfold lV at e1 e2;rw[e1]at h5;have B1:Below w.heap.size w ((W1.alloc oF).alloc o3):=(b1.alloc b1.size _).alloc (Oi b1.size) _;have HP:Hid _:=hp.next n1;have y7:Hid _:=e2;have z1:Hid _:=B1;have k8:w.heap.size<=((W1.alloc oF).alloc o3).heap.size:=B1.size;clear hr e1 e2 hp n1 a1 B1 b1 s1;go_upto_region 4 with fail
 rw[<-k3];clear k3;go_wp2_with fail
 rw[<-h9];clear h9;generalize (W1.alloc oF).alloc o3=Wb at*;refine h5.mono ?_;rintro e W2 hpost;obtain⟨va,rfl,⟨vO,rfl,h0⟩,b2⟩:=hpost.rs;clear hpost h5;obtain⟨ao,cp,rfl,_,h2⟩:=h0;obtain⟨g1,rfl,c1⟩:=h2 Ob;have c3:W2.cell? ⟨g1,0,none⟩=some (.int .i64 3):=c1 0 Ob;clear h2 c1;obtain⟨oA,h8⟩:∃ o:Obj,o= .cells #[.int .i64 1,.int .i64 2,.int .i64 (-1),.slice (some ⟨g1,0,none⟩) 1 cp] 42:=⟨_,rfl⟩;obtain⟨o0,k0⟩:∃ o:Obj,o= .cells #[.int .i64 0] 2:=⟨_,rfl⟩;have s2:(W2.alloc oA).heap.size=W2.heap.size+1:=Od
 have n2:∀ i,i < W2.heap.size->((W2.alloc oA).alloc o0).heap[i]?=W2.heap[i]?:=fun i hi=>(On Oa).trans (On hi)
 have kA:((W2.alloc oA).alloc o0).heap[W2.heap.size]?=some (.cells #[.int .i64 1,.int .i64 2,.int .i64 (-1),.slice (some ⟨g1,0,none⟩) 1 cp] 42 (0,0)):=by
  refine(On Oa).trans ?_;rw[h8];exact Qb W2 _
 have a2:xK ((W2.alloc oA).alloc o0) (.slice (some ⟨W2.heap.size+1,0,none⟩) 1 1) [0]:=by
  refine aF8 (cs:=#[.int .i64 0]) (t:=2) ?_ rfl rfl;have:=Qb (W2.alloc oA) o0;rw[s2]at this;rw[this,k0]
 have q3:=(Qf (n2 _ (Qg W2 _ c3))).trans c3;have k2:=(HP.out.next (fun i hi=>b2.block i hi)).next n2;have h4:=aA5 k2 (by have:=vR;unfold lV at this;rw[this]) a2 9;rw[y7.out]at h4;have B2:Below w.heap.size w W2:=z1.out.trans (b2.mono k8);have k7:Hid (Below w.heap.size w ((W2.alloc oA).alloc o0)):=(B2.alloc B2.size _).alloc (Oi B2.size) _;have h6:w.heap.size<=((W2.alloc oA).alloc o0).heap.size:=k7.out.size;have hsz3:W2.heap.size < ((W2.alloc oA).alloc o0).heap.size:=by simp;omega
 clear a2 k2 B2 b2 s2 n2 c3;dsimp only;go_upto_region 5 with fail
 rw[<-h8];clear h8;go_wp2_with fail
 rw[<-k0];clear k0;generalize (W2.alloc oA).alloc o0=W3 at*;refine h4.mono ?_;rintro e W4 hpost;obtain⟨vb,rfl,⟨vO,rfl,h0⟩,b4⟩:=hpost.rs;clear hpost h4;obtain⟨bo,cq,rfl,_,h2⟩:=h0;obtain⟨g2,rfl,c1⟩:=h2 Ob;have r4:aCR W4 (.slice (some ⟨g2,0,none⟩) 1 cq) [0]:=⟨_,_,rfl,by unfold maxLen;decide,fun _=>⟨g2,rfl,c1⟩⟩;clear h2 c1;obtain⟨oB,h7⟩:∃ o:Obj,o= .cells #[.int .i64 2,.int .i64 0,.int .i64 0,.slice (some ⟨g2,0,none⟩) 1 cq] 42:=⟨_,rfl⟩;have n4:∀ i,i < W4.heap.size->(W4.alloc oB).heap[i]?=W4.heap[i]?:=fun i hi=>On hi
 have kB:(W4.alloc oB).heap[W4.heap.size]?=some (.cells #[.int .i64 2,.int .i64 0,.int .i64 0,.slice (some ⟨g2,0,none⟩) 1 cq] 42 (0,0)):=by
  rw[h7];exact Qb W4 _
 have y0:=b4.size;have kA5:=((n4 W2.heap.size Oa).trans (b4.block _ Oa)).trans kA;have k6:=Qg W3 _ q3;have q5:=(Qf (a:=⟨g1,0,none⟩) ((n4 g1 (Nat.lt_of_lt_of_le k6 y0)).trans (b4.block g1 k6))).trans q3
 have ra:R4W (W4.alloc oB) ⟨1,2,-1,[3]⟩ (.agg #[.int .i64 1,.int .i64 2,.int .i64 (-1),.slice (some ⟨g1,0,none⟩) 1 cp]):=⟨_,rfl,_,_,rfl,by unfold maxLen;decide,fun _=>⟨g1,rfl,fun i hi=>by
  obtain rfl:i=0:=by have:i < 1:=hi;omega
  exact q5⟩⟩
 have rb:R4W (W4.alloc oB) ⟨2,0,0,[0]⟩ (.agg #[.int .i64 2,.int .i64 0,.int .i64 0,.slice (some ⟨g2,0,none⟩) 1 cq]):=⟨_,rfl,r4.next n4⟩;have B5:Below w.heap.size w (W4.alloc oB):=(k7.out.trans (b4.mono h6)).alloc Oa _;have hl5:W4.heap.size < (W4.alloc oB).heap.size:=Od
 clear r4 n4 kA q3 b4;dsimp only;go_upto_region 6 with fail
 rw[<-h7];clear h7;generalize W4.alloc oB=W5 at*;have k5:Calls Tryz.prog 25 #[.agg #[.int .i64 1,.int .i64 2,.int .i64 (-1),.slice (some ⟨g1,0,none⟩) 1 cp],.bool true,.int .i64 2,.int .i64 0] W5 fun e w'=>e= .returned (.bool true)/\Below W5.heap.size W5 w':=aNS ⟨1,2,-1,[3]⟩ _ true 2 0 W5 ra;obtain⟨u0,u1,u2,u3,_⟩:=dP kA5;have y1:Hid _:=rb;have y5:Hid _:=kA5;have y4:Hid _:=kB;have z0:Hid _:=B5;have y3:Hid _:=q5;have h3:=Qg W5 _ q5;clear ra rb kA5 kB B5 q5;go_wp2_with fail
 refine k5.mono ?_;rintro e W6 ⟨rfl,b6⟩;have k9:=b6.size;have kB6:=(b6.block W4.heap.size Oa).trans y4.out;have kA6:=(b6.block W2.heap.size Oa).trans y5.out;have q6:=(Qf (a:=⟨g1,0,none⟩) (b6.block g1 h3)).trans y3.out;have k4:Calls Tryz.prog 25 #[.agg #[.int .i64 2,.int .i64 0,.int .i64 0,.slice (some ⟨g2,0,none⟩) 1 cq],.bool false,.int .i64 0,.int .i64 0] W6 fun e w'=>e= .returned (.bool true)/\Below W6.heap.size W6 w':=aNS ⟨2,0,0,[0]⟩ _ false 0 0 W6 (R4W.next (x:=⟨2,0,0,[0]⟩) y1.out (fun i hi=>b6.block i hi));have y9:Hid (Below w.heap.size w W6):=z0.out.trans (b6.mono Oa);obtain⟨v0,v1,v2,v3,_⟩:=dP kB6;have y6:Hid _:=kA6;have y2:Hid _:=q6;have k1:g1 < W6.heap.size:=Nat.lt_of_lt_of_le h3 k9;clear kA6 kB6 q6 b6 k5 u0 u1 u2 u3;go_wp2_with fail
 refine k4.mono ?_;rintro e W7 ⟨rfl,b7⟩;obtain⟨_,_,_,u3,_⟩:=dP ((b7.block W2.heap.size Oa).trans y6.out);have q7:=(Qf (a:=⟨g1,0,none⟩) (b7.block g1 k1)).trans y2.out;have y8:Hid (Below w.heap.size w W7):=y9.out.trans (b7.mono Oa);clear k4 b7 v0 v1 v2 v3;go_wp2;go_ret;exact⟨rfl,y8.out⟩
end
end Go.Proofs.YtikffmloeifkpaaGreatDoor
