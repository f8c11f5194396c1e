/- Contracts. -/
import Derived.Test.YtikffmloeifkpaaGreatDoorQ35
import Derived.Test.YtikffmloeifkpaaGreatDoorQ26
set_option maxHeartbeats 8000000
set_option maxRecDepth 100000
namespace Go.Proofs.YtikffmloeifkpaaGreatDoor
section
open Go.RowKit Go.Lib Go.Deep Go.Maps Go.ChangeMaps Go.MapKept
variable {H lb pb kb vb xb nw c:Nat} {vS:Value} {K:Kn} {E:Int->Option Nat} {m:Bool} {S:Sl} {F:Fl} {alive:Bool} {vs:Vr} {u w w':World}
theorem dW.all{b:Nat}(h:dW b vs w):w.cell? ⟨b,0,none⟩=some (.int .i64 (vs 0).1)/\w.cell? ⟨b,1,none⟩=some (.int .i64 (vs 0).2)/\w.cell? ⟨b,2,none⟩=some (.int .i64 (vs 1).1)/\w.cell? ⟨b,3,none⟩=some (.int .i64 (vs 1).2)/\w.cell? ⟨b,4,none⟩=some (.int .i64 (vs 2).1)/\w.cell? ⟨b,5,none⟩=some (.int .i64 (vs 2).2)/\w.cell? ⟨b,6,none⟩=some (.int .i64 (vs 3).1)/\w.cell? ⟨b,7,none⟩=some (.int .i64 (vs 3).2)/\w.cell? ⟨b,8,none⟩=some (.int .i64 (vs 4).1)/\w.cell? ⟨b,9,none⟩=some (.int .i64 (vs 4).2)/\w.cell? ⟨b,10,none⟩=some (.int .i64 (vs 5).1)/\w.cell? ⟨b,11,none⟩=some (.int .i64 (vs 5).2)/\w.cell? ⟨b,12,none⟩=some (.int .i64 (vs 6).1)/\w.cell? ⟨b,13,none⟩=some (.int .i64 (vs 6).2)/\w.cell? ⟨b,14,none⟩=some (.int .i64 (vs 7).1)/\w.cell? ⟨b,15,none⟩=some (.int .i64 (vs 7).2)/\w.cell? ⟨b,16,none⟩=some (.int .i64 (vs 8).1)/\w.cell? ⟨b,17,none⟩=some (.int .i64 (vs 8).2)/\w.cell? ⟨b,18,none⟩=some (.int .i64 (vs 9).1)/\w.cell? ⟨b,19,none⟩=some (.int .i64 (vs 9).2)/\w.cell? ⟨b,20,none⟩=some (.int .i64 (vs 10).1)/\w.cell? ⟨b,21,none⟩=some (.int .i64 (vs 10).2)/\w.cell? ⟨b,22,none⟩=some (.int .i64 (vs 11).1)/\w.cell? ⟨b,23,none⟩=some (.int .i64 (vs 11).2):=
 ⟨(h.cells.1 0 Ob).1,(h.cells.1 0 Ob).2,(h.cells.1 1 Ob).1,(h.cells.1 1 Ob).2,(h.cells.1 2 Ob).1,(h.cells.1 2 Ob).2,(h.cells.1 3 Ob).1,(h.cells.1 3 Ob).2,(h.cells.1 4 Ob).1,(h.cells.1 4 Ob).2,(h.cells.1 5 Ob).1,(h.cells.1 5 Ob).2,(h.cells.1 6 Ob).1,(h.cells.1 6 Ob).2,(h.cells.1 7 Ob).1,(h.cells.1 7 Ob).2,(h.cells.1 8 Ob).1,(h.cells.1 8 Ob).2,(h.cells.1 9 Ob).1,(h.cells.1 9 Ob).2,(h.cells.1 10 Ob).1,(h.cells.1 10 Ob).2,(h.cells.1 11 Ob).1,(h.cells.1 11 Ob).2⟩
def fK(vs:Vr):Array Value:=#[.int .i64 (vs 0).1,.int .i64 (vs 0).2,.int .i64 (vs 1).1,.int .i64 (vs 1).2,.int .i64 (vs 2).1,.int .i64 (vs 2).2,.int .i64 (vs 3).1,.int .i64 (vs 3).2,.int .i64 (vs 4).1,.int .i64 (vs 4).2,.int .i64 (vs 5).1,.int .i64 (vs 5).2,.int .i64 (vs 6).1,.int .i64 (vs 6).2,.int .i64 (vs 7).1,.int .i64 (vs 7).2,.int .i64 (vs 8).1,.int .i64 (vs 8).2,.int .i64 (vs 9).1,.int .i64 (vs 9).2,.int .i64 (vs 10).1,.int .i64 (vs 10).2,.int .i64 (vs 11).1,.int .i64 (vs 11).2]
theorem pA(vs:Vr):aCP vs (fK vs):=by
 refine⟨fun i hi=>?_,fun i hi=>?_⟩
 ·match i,hi with
  |0,_|1,_|2,_|3,_|4,_|5,_|6,_|7,_|8,_|9,_|10,_|11,_=>rfl
  |n+12,h=>omega
 ·match i,hi with
  |0,_|1,_|2,_|3,_|4,_|5,_|6,_|7,_|8,_|9,_|10,_|11,_=>rfl
  |n+12,h=>omega
theorem aD1(vs:Vr):(fK vs).all (·.oneCell')=true:=by simp[fK,Value.oneCell']
theorem aAK(vs:Vr):(Tryz.prog.info? 261).map (·.size)=some (fK vs).size:=by
 have h:(Tryz.prog.info? 261).map (·.size)=some 24:=by kernel_rfl
 exact h
theorem zN{w:World}{k:Nat}{cs:Array Value}{t:TypeId}(h:w.heap[k]?=some (.cells cs t (0,0)))(o:Nat):w.frozen? ⟨k,o,none⟩=false:=by simp[World.frozen?,h]
theorem LkE.newest(h:LkE H lb pb kb vS nw c K E w)(hc:c+1<=4611686018427387904):LkE H lb pb kb vS (nw+1) (c+1) K E (w.setCell ⟨lb,3,none⟩ (.int .i64 ((nw:Int)+1)))/\Fs H true w (w.setCell ⟨lb,3,none⟩ (.int .i64 ((nw:Int)+1))):=by
 have hb:(w.setCell ⟨lb,3,none⟩ (.int .i64 ((nw:Int)+1))).heap[lb]?=some (.cells #[.pointer (some ⟨pb,0,none⟩),vS,.map (some kb),.int .i64 ((nw+1:Nat):Int)] 173 (0,0)):=by
  have:=aM (o:=3) (.int .i64 ((nw:Int)+1)) h.blk;simpa using this
 have off:∀ i,i≠lb->(w.setCell ⟨lb,3,none⟩ (.int .i64 ((nw:Int)+1))).heap[i]?=w.heap[i]?:=fun _ hi=>Om hi
 have h0:kb≠lb:=by
  rintro rfl;obtain⟨es,cl,hm⟩:=h.map.ismap;rw[h.blk]at hm;cases hm
 refine⟨⟨hb,(h.map.same (off kb h0)).mono Oa,h.dead,fun p vs hp=>?_,h.inj,fun p hp=>h.far p Oa,h.ge,Oi h.few,hc⟩,(Fs.refl _ _ _).set h.blk h.ge.1 (.inr ⟨rfl,.inr rfl⟩) _ _⟩;obtain⟨b,e1,e2,e3⟩:=h.live p vs hp;refine⟨b,e1,e2,e3.same (off b ?_)⟩;rintro rfl;obtain⟨cs,h1,_⟩:=e3;exact bEF h1 h.blk Ob rfl
theorem LkE.putNew{q:Int}{k:Nat}{vs:Vr}(h:LkE H lb pb kb vS nw c K E w)(hq:0<=q/\q<=(nw:Int))(hk:H<=k)(hv:dW k vs w)(hn:∀ p,E p≠some k)(hc:c+1<=4611686018427387904):
 ∃ w',(Instr.mapUpdate 170 (.map (some kb)) (.int .i64 q) (.pointer (some ⟨k,0,none⟩))).run Tryz.prog w= .ok () w'/\LkE H lb pb kb vS nw (c+1) (bEI K q (some vs)) (kT E q (some k)) w'/\Fs H true w w':=by
 have hf:=h.few;obtain⟨w',hr,hm,ht⟩:=h.map.put (n:=c+1) (by unfold maxLen;omega) (p:=q) Oa k;refine⟨w',hr,⟨mU ht h.blk,hm,fun p hp=>?_,fun p vp hp=>?_,fun p r b hp hr=>?_,fun p hp=>?_,h.ge,Oa,hc⟩,(Fs.refl _ _ _).turned h.ge.2 ht⟩
 ·unfold bEI at hp;unfold kT
  split at hp
  ·cases hp
  ·rename_i e;rw[if_neg e];exact h.dead p hp
 ·unfold bEI at hp;unfold kT
  split at hp
  ·rename_i e;cases hp;rw[if_pos e];exact⟨k,rfl,hk,hv.turned ht⟩
  ·rename_i e;rw[if_neg e];obtain⟨b,e1,e2,e3⟩:=h.live p vp hp;exact⟨b,e1,e2,e3.turned ht⟩
 ·unfold kT at hp hr
  by_cases e1:p=q
  ·by_cases e2:r=q
   ·rw[e1,e2]
   ·rw[if_pos e1]at hp;rw[if_neg e2]at hr;cases hp;exact absurd hr (hn r)
  ·rw[if_neg e1]at hp
   by_cases e2:r=q
   ·rw[if_pos e2]at hr;cases hr;exact absurd hp (hn p)
   ·rw[if_neg e2]at hr;exact h.inj p r b hp hr
 ·unfold bEI
  split
  ·omega
  ·exact h.far p hp
theorem yJ{b:Nat}:∀ (l:List Value) (o:Nat) (w:World) (cs:Array Value) (t:TypeId),w.heap[b]?=some (.cells cs t (0,0))->(∃ cs',(w.setCells b o l).heap[b]?=some (.cells cs' t (0,0)))/\(∀ i,i≠b->(w.setCells b o l).heap[i]?=w.heap[i]?)/\(w.setCells b o l).heap.size=w.heap.size/\(w.setCells b o l).os=w.os/\(w.setCells b o l).tape=w.tape/\(w.setCells b o l).output=w.output:=by
 intro l
 induction l with
 |nil=>intro o w cs t h;exact⟨⟨cs,h⟩,fun _ _=>rfl,rfl,rfl,rfl,rfl⟩
 |cons v l ih=>
  intro o w cs t h;obtain⟨h1,h2,h3,h4,h5,h6⟩:=ih (o+1) (w.setCell ⟨b,o,none⟩ v) _ t (aM v h);refine⟨h1,fun i hi=>(h2 i hi).trans (Om hi),h3.trans (by simp[World.setCell]),h4,h5,h6⟩
theorem aEZ(w:World)(vs:Vr)(ht:(w.alloc (.cells bEU 261)).there w.heap.size 0 (fK vs).size):dW w.heap.size vs ((w.alloc (.cells bEU 261)).setCells w.heap.size 0 (fK vs).toList)/\Below w.heap.size w ((w.alloc (.cells bEU 261)).setCells w.heap.size 0 (fK vs).toList):=by
 have hk:=Qb w (.cells bEU 261);obtain⟨⟨cs,h1⟩,h2,h3,h4,h5,h6⟩:=yJ (fK vs).toList 0 _ _ _ hk;have hr:=World.rangeAt_setCells_same (w.alloc (.cells bEU 261)) w.heap.size 0 (fK vs).toList (by simpa using ht)
 have h0:∀ j v,(fK vs)[j]?=some v->cs[j]?=some v:=fun j v hj=>by
  have:=hr j v (by rw[Array.getElem?_toList];exact hj);rw[Nat.zero_add,cell_of_row _ _ _ _ _ _ h1]at this;exact this
 refine⟨⟨cs,h1,fun i hi=>h0 _ _ ((pA vs).lo i hi),fun i hi=>h0 _ _ ((pA vs).hi i hi)⟩,h4,h5,h6,by rw[h3];simp,fun i hi=>?_⟩;exact(h2 i Oa).trans (On hi)
theorem aNV(h:LkW H lb pb kb vS nw c K w)(p:Int)(hp:0<=p/\p<=9223372036854775807)(hc:c+2<=4611686018427387904):
 Calls Tryz.prog 314 #[.pointer (some ⟨lb,0,none⟩),.int .i64 p] w fun e w'=>e= .returned (.int .i64 ((nw:Int)+1))/\LkW H lb pb kb vS (nw+1) (c+2) (bEI K ((nw:Int)+1) (K p)) w'/\Fs H true w w':=by
 obtain⟨E,h⟩:=h;obtain⟨c0,c1,c2,c3,cf⟩:=cO h.blk;have hnI:0<=(nw:Int)/\(nw:Int)<=4611686018427387904:=by have:=h.few;omega
 obtain⟨h1,f1⟩:=h.newest Oa;have lk:=(h1.at_ p hp).1;obtain⟨d0,d1,d2,d3,df⟩:=cO h1.blk;have h0:K ((nw:Int)+1)=none:=h.far _ Oa;generalize hW1:w.setCell ⟨lb,3,none⟩ (.int .i64 ((nw:Int)+1))=W1 at*;cases hK:K p with
 |none=>
  rw[hK,h.dead p hK]at lk
  change (Instr.lookup 170 (.map (some kb)) (.int .i64 p) true).run Tryz.prog W1= .ok (.tuple #[.pointer none,.bool false]) W1 at lk
  have FIN:Hid (LkW H lb pb kb vS (nw+1) (c+2) (bEI K ((nw:Int)+1) none) W1):=LkW.mono ⟨E,h1.congr fun q=>(mK (K:=K) h0 q).symm⟩ Oa hc;have HF:Hid (Fs H true w W1):=f1;clear h1 f1 h hK h0;go_enter Tryz.func314,Tryz.ntmps314
  go_wp2;go_ret;exact⟨rfl,FIN.out,HF.out⟩
 |some vs=>
  obtain⟨b,hE,hH,hv⟩:=h1.live p vs hK;rw[hK,hE]at lk
  change (Instr.lookup 170 (.map (some kb)) (.int .i64 p) true).run Tryz.prog W1= .ok (.tuple #[.pointer (some ⟨b,0,none⟩),.bool true]) W1 at lk
  have rng:W1.rangeAt b 0 (fK vs).toList:=by
   obtain⟨cs,hc,h2,h3⟩:=hv;intro j v hj;rw[Nat.zero_add,cell_of_row _ _ _ _ _ _ hc];have hjl:j < 24:=(List.getElem?_eq_some_iff.1 hj).1;rw[Array.getElem?_toList]at hj;have e1:∀ i,i < 12->(fK vs)[i*2]?=some (.int .i64 (vs i).1):=(pA vs).lo;have e2:∀ i,i < 12->(fK vs)[i*2+1]?=some (.int .i64 (vs i).2):=(pA vs).hi;rcases Nat.mod_two_eq_zero_or_one j with hm|hm
   ·obtain⟨i,rfl⟩:∃ i,j=i*2:=⟨j / 2,Oa⟩;rw[e1 i Oa]at hj;rw[h2 i Oa];exact hj
   ·obtain⟨i,rfl⟩:∃ i,j=i*2+1:=⟨j / 2,Oa⟩;rw[e2 i Oa]at hj;rw[h3 i Oa];exact hj
  have HR:Hid (W1.rangeAt b 0 (fK vs).toList):=rng
  have HT:Hid ((W1.alloc (.cells bEU 261)).there W1.heap.size 0 (fK vs).size):=by
   intro j hj;have hk:=Qb W1 (.cells bEU 261);rw[Nat.zero_add,cell_of_row _ _ _ _ _ _ hk];have h4:j < 24:=hj;exact⟨by rw[Array.getElem?_eq_getElem (show j < bEU.size from h4)];rfl,zN hk _⟩
  have HH:Hid (LkE H lb pb kb vS (nw+1) (c+1) K E W1):=h1;have HF:Hid (Fs H true w W1):=f1;have HV:Hid (dW b vs W1):=hv;clear h1 f1 h hK hv rng;go_enter Tryz.func314,Tryz.ntmps314
  go_upto_region 4 with fail
  go_upto_region 5 with(first
   |(refine wpList_load_mid rfl 261 (.tmp 26) rfl b 0 rfl (fK vs).toList _ HR.out Tryz.underlying261 rfl (by kernel_rfl) ?_)
   |(refine wpList_store_mid rfl 261 (.tmp 7) (.tmp 27) rfl W1.heap.size 0 (fK vs) rfl rfl HT.out (aAK vs) (aD1 vs) ?_))
  dsimp only[Act.put];obtain⟨h5,b2⟩:=aEZ W1 vs HT.out
  change Code.wp _ _ _ _ ((W1.alloc (.cells bEU 261)).setCells W1.heap.size 0 (fK vs).toList)
  generalize (W1.alloc (.cells bEU 261)).setCells W1.heap.size 0 (fK vs).toList=W2 at*;have f2:Fs H false W1 W2:=Fs.of b2 HH.out.size false;have h2:=HH.out.fs f2
  have hn:∀ q,E q≠some W1.heap.size:=fun q e=>by
   obtain⟨vq,_,_,⟨cs,h6,_⟩,_⟩:=HH.out.block e;have:=(Oo h6);omega
  obtain⟨W3,hput,h3,f3⟩:=h2.drew.putNew (q:=(nw:Int)+1) (k:=W1.heap.size) (vs:=vs) Oa HH.out.size (h5.same rfl) hn Oa;obtain⟨d0,d1,d2,d3,df⟩:=cO h2.blk;obtain⟨e0,e1,e2,e3,ef⟩:=cO h3.blk;have H3:Hid (LkW H lb pb kb vS (nw+1) (c+2) (bEI K ((nw:Int)+1) (some vs)) W3):=⟨_,h3⟩;have F3:Hid (Fs H true w W3):=(HF.out.trans (Fs.of b2 HH.out.size true)).drew.trans f3;rw[show((nw+1:Nat):Int)=(nw:Int)+1 by omega]at d3 e3;clear h3 f3 h2 f2 hn h5 b2 HR HT HH HV HF;go_region
  all_goals go_wp2
  all_goals go_ret
  all_goals exact⟨rfl,H3.out,F3.out⟩
end
section
open Go.RowKit Go.Lib Go.Deep Go.Maps Go.ChangeMaps Go.MapKept
variable {H lb pb kb vb xb nw c:Nat} {vS:Value} {K:Kn} {E:Int->Option Nat} {m:Bool} {S:Sl} {F:Fl} {alive:Bool} {vs:Vr} {u w w':World}
theorem LkE.kill(h:LkE H lb pb kb vS nw c K E w)(p:Int)(hp:0<=p/\p<=9223372036854775807):
 ∃ w',(∀ ty,(Builtin.delete_ #[170,171] ty #[.map (some kb),.int .i64 p]).run Tryz.prog w= .ok (.tuple #[]) w')/\LkE H lb pb kb vS nw c (bEI K p none) (kT E p none) w'/\Fs H true w w'/\w.mapTurned w' kb:=by
 obtain⟨w',hr,hm,ht⟩:=h.map.drop (p:=p) Oa;refine⟨w',hr,⟨mU ht h.blk,hm,fun q hq=>?_,fun q vs hq=>?_,fun q r b hq hr=>?_,fun q hq=>?_,h.ge,h.few⟩,(Fs.refl _ _ _).turned h.ge.2 ht,ht⟩
 ·unfold kT bEI at*
  by_cases e:q=p
  ·rw[if_pos e]
  ·rw[if_neg e]at hq ⊢;exact h.dead q hq
 ·unfold kT bEI at*
  by_cases e:q=p
  ·rw[if_pos e]at hq;cases hq
  ·rw[if_neg e]at hq ⊢;obtain⟨b,e1,e2,e3⟩:=h.live q vs hq;exact⟨b,e1,e2,e3.turned ht⟩
 ·unfold kT at hq hr
  by_cases e:q=p
  ·rw[if_pos e]at hq;cases hq
  ·rw[if_neg e]at hq
   by_cases e2:r=p
   ·rw[if_pos e2]at hr;cases hr
   ·rw[if_neg e2]at hr;exact h.inj q r b hq hr
 ·unfold bEI
  split
  ·rfl
  ·exact h.far q hq
theorem aSP(h:LkE H lb pb kb vS nw c K E w)(p:Int)(hp:0<=p/\p<=9223372036854775807):
 Calls Tryz.prog 261 #[.pointer (some ⟨lb,0,none⟩),.int .i64 p] w fun e w'=>e= .returned (.tuple #[])/\LkE H lb pb kb vS nw c (bEI K p none) (kT E p none) w'/\Fs H true w w'/\w.mapTurned w' kb:=by
 obtain⟨w',hr,h2,hx,ht⟩:=h.kill p hp;obtain⟨c0,c1,c2,c3,cf⟩:=cO h.blk;have HH:Hid (LkE H lb pb kb vS nw c (bEI K p none) (kT E p none) w'/\Fs H true w w'/\w.mapTurned w' kb):=⟨h2,hx,ht⟩;clear h2 hx h ht;go_enter Tryz.func261,Tryz.ntmps261
 go_wp2;go_end0
 exact⟨rfl,HH.out⟩
theorem LkE.off{b:Nat}(h:LkE H lb pb kb vS nw c K E w)(hb:dW b vs w)(hn:∀ p,E p≠some b)(hw:∀ i,i≠b->w'.heap[i]?=w.heap[i]?):LkE H lb pb kb vS nw c K E w':=by
 obtain⟨cs,hc,_⟩:=hb;have n1:lb≠b:=by rintro rfl;exact bEF hc h.blk Ob rfl
 have n2:kb≠b:=by
  rintro rfl;obtain⟨es,cl,hm⟩:=h.map.ismap;rw[hm]at hc;cases hc
 refine⟨(hw lb n1).trans h.blk,h.map.same (hw kb n2),h.dead,fun p vp hp=>?_,h.inj,h.far,h.ge,h.few⟩;obtain⟨b',e1,e2,e3⟩:=h.live p vp hp;exact⟨b',e1,e2,e3.same (hw b' (by rintro rfl;exact hn p e1))⟩
def aC1(f:Rg->Rg->Rg)(t h:Vr)(i:Nat):Vr:=fun j=>if j < i then f (t j) (h j)else t j
theorem aJW{f:Rg->Rg->Rg}{t h:Vr}{i:Nat}:∀ j,aC1 f t h (i+1) j=oT (aC1 f t h i) i (f (t i) (h i)) j:=fun j=>by
 show(if j < i+1 then f (t j) (h j)else t j)=if j=i then f (t i) (h i)else if j < i then f (t j) (h j)else t j
 by_cases e:j=i
 ·rw[if_pos e,if_pos Oa,e]
 ·rw[if_neg e]
  by_cases e2:j < i
  ·rw[if_pos e2,if_pos Oa]
  ·rw[if_neg e2,Oh]
theorem aQG{f:Rg->Rg->Rg}{t h:Vr}{i:Nat}:aC1 f t h i i=t i:=Oh
theorem aC4(h:LkW H lb pb kb vS nw c K w)(p o:Int)(hp:0<=p/\p<=(nw:Int))(hq:0<=o/\o<=(nw:Int))(k5:p≠o)(hc:c+1<=4611686018427387904):
 Calls Tryz.prog 270 #[.pointer (some ⟨lb,0,none⟩),.int .i64 p,.int .i64 o] w fun e w'=>e= .returned (.tuple #[])/\LkW H lb pb kb vS nw (c+1) (bEI (bEI K o none) p (lF (K p) (K o))) w'/\Fs H true w w':=by
 obtain⟨E,h⟩:=h;have hf:=h.few;obtain⟨c0,c1,c2,c3,cf⟩:=cO h.blk;have lk:=(h.at_ o Oa).1;have hk:=aSP h o Oa;have h4:bEI K o none p=K p:=cE k5;cases hO:K o with
 |none=>
  rw[hO,h.dead o hO]at lk
  change (Instr.lookup 170 (.map (some kb)) (.int .i64 o) true).run Tryz.prog w= .ok (.tuple #[.pointer none,.bool false]) w at lk
  have HP:Hid (∀ q,bEI (bEI K o none) p (lF (K p) none) q=bEI K o none q):=fun q=>(mK (K:=bEI K o none) (s:=lF (K p) none) (p:=p) (by rw[h4];rfl) q).symm;clear h hO h4;go_enter Tryz.func270,Tryz.ntmps270
  go_wp2_with fail
  refine hk.mono ?_;rintro e W1 ⟨rfl,h1,f1,_⟩;have H1:Hid (LkW H lb pb kb vS nw (c+1) (bEI (bEI K o none) p (lF (K p) none)) W1):=LkW.mono ⟨_,h1.congr HP.out⟩ Oa hc;have F1:Hid (Fs H true w W1):=f1;clear h1 f1 hk;go_wp2;refine bodyPost_ret (results_none rfl _ _ _) rfl ?_;exact⟨rfl,H1.out,F1.out⟩
 |some t=>
  obtain⟨bo,h8,h7,k1⟩:=h.live o t hO;rw[hO,h8]at lk
  change (Instr.lookup 170 (.map (some kb)) (.int .i64 o) true).run Tryz.prog w= .ok (.tuple #[.pointer (some ⟨bo,0,none⟩),.bool true]) w at lk
  have hn:∀ q,kT E o none q≠some bo:=fun q e=>by
   unfold kT at e
   by_cases e1:q=o
   ·rw[if_pos e1]at e;cases e
   ·rw[if_neg e1]at e;exact e1 (h.inj q o bo e h8)
  have HN:Hid (∀ q,kT E o none q≠some bo):=hn;have k0:Hid (dW bo t w):=k1;have h5:Hid (bEI K o none p=K p):=h4;clear h hO hn k1 h4 h8;go_enter Tryz.func270,Tryz.ntmps270
  go_wp2_with fail
  refine hk.mono ?_;rintro e W1 ⟨rfl,h1,f1,t1⟩;have v1:dW bo t W1:=k0.out.turned t1;obtain⟨d0,d1,d2,d3,df⟩:=cO h1.blk;have lk1:=(h1.at_ p Oa).1;rw[h5.out]at lk1;have H1:Hid (LkE H lb pb kb vS nw c (bEI K o none) (kT E o none) W1):=h1;have F1:Hid (Fs H true w W1):=f1;have V1:Hid (dW bo t W1):=v1;cases hP:K p with
  |none=>
   rw[hP,h1.dead p (h5.out.trans hP)]at lk1
   change (Instr.lookup 170 (.map (some kb)) (.int .i64 p) true).run Tryz.prog W1= .ok (.tuple #[.pointer none,.bool false]) W1 at lk1
   obtain⟨W2,h6,h2,f2⟩:=h1.putNew (q:=p) (k:=bo) (vs:=t) hp h7 v1 HN.out hc
   have H2:Hid (LkW H lb pb kb vS nw (c+1) (bEI (bEI K o none) p (lF (K p) (some t))) W2):=by
    rw[hP];exact⟨_,h2⟩
   have F2:Hid (Fs H true w W2):=F1.out.trans f2;clear h1 f1 t1 v1 h2 f2 hk hP k0 lk;go_wp2;go_end0
   exact⟨rfl,H2.out,F2.out⟩
  |some hh=>
   obtain⟨ba,h9,hHa,h3⟩:=h1.live p hh (h5.out.trans hP);rw[hP,h9]at lk1
   change (Instr.lookup 170 (.map (some kb)) (.int .i64 p) true).run Tryz.prog W1= .ok (.tuple #[.pointer (some ⟨ba,0,none⟩),.bool true]) W1 at lk1
   have k6:Hid (kT E o none p=some ba):=h9;have HP:Hid (K p=some hh):=hP;have L0:dW bo (aC1 bQ t hh 0) W1:=v1.eq fun i _=>Oh;have k4:Hid (LkE H lb pb kb vS nw c (bEI K o none) (kT E o none) W1/\dW bo (aC1 bQ t hh 0) W1/\Fs H true w W1):=⟨h1,L0,f1⟩;clear h1 f1 t1 v1 hk hP k0 lk L0 H1 F1 V1 h3 h9;go_wp2_with fail
   go_loopg [35] 12 (fun m v wr=>∃ i:Nat,v= .int .i64 i/\i<=12/\12<=i+m/\LkE H lb pb kb vS nw c (bEI K o none) (kT E o none) wr/\dW bo (aC1 bQ t hh i) wr/\Fs H true w wr)
   case atStart=>exact⟨0,rfl,Oa,Oa,k4.out⟩
   case round=>
    clear k4 lk1 d0 d1 d2 d3 df;obtain⟨i,rfl,hi,hm,h1,v1,f1⟩:=hrel
    rename World=>WP
    obtain⟨d0,d1,d2,d3,df⟩:=cO h1.blk;have H1:Hid (LkE H lb pb kb vS nw c (bEI K o none) (kT E o none) WP):=h1;have V1:Hid (dW bo (aC1 bQ t hh i) WP):=v1;have F1:Hid (Fs H true w WP):=f1
    by_cases h0:i < 12
    ·have hltI:0<=(i:Int)/\(i:Int) < 12:=Oa
     obtain⟨va,k3,_,h3,_,_⟩:=h1.block k6.out;rw[h5.out,HP.out]at k3;cases k3;obtain⟨xc,xf⟩:=v1.cells;obtain⟨x0,x1⟩:=xc i h0;rw[aQG]at x0 x1;obtain⟨yc,yf⟩:=h3.cells;obtain⟨y0,y1⟩:=yc i h0;clear xc yc;obtain⟨m,rfl⟩:=Oj gk;have k2:=h1.size;clear h1 v1 f1 h3;go_upto_region 8 with fail
     go_region_with (go_at_call 315;refine(aNH (t i) (hh i) _).mono ?_;rintro e Wa ⟨rfl,ha⟩;have fa:Fs H false WP.drew Wa:=Fs.of ha k2 false;have la:=H1.out.drew.fs fa;have va:=(V1.out.same (w':=WP.drew) rfl).fs fa;obtain⟨zc,zf⟩:=va.cells;obtain⟨z0,z1⟩:=zc i h0;clear zc;rw[aS])
     all_goals
      have P1:LkE H lb pb kb vS nw c (bEI K o none) (kT E o none) ((Wa.setCell ⟨bo,i*2,none⟩ (.int .i64 (bQ (t i) (hh i)).1)).setCell ⟨bo,i*2+1,none⟩ (.int .i64 (bQ (t i) (hh i)).2)):=la.off va HN.out pX;have P2:dW bo (aC1 bQ t hh (i+1)) ((Wa.setCell ⟨bo,i*2,none⟩ (.int .i64 (bQ (t i) (hh i)).1)).setCell ⟨bo,i*2+1,none⟩ (.int .i64 (bQ (t i) (hh i)).2)):=(va.put h0 (bQ (t i) (hh i))).eq fun j _=>aJW j;have P3:Fs H true w ((Wa.setCell ⟨bo,i*2,none⟩ (.int .i64 (bQ (t i) (hh i)).1)).setCell ⟨bo,i*2+1,none⟩ (.int .i64 (bQ (t i) (hh i)).2)):=(F1.out.drew.trans (Fs.of ha k2 true)).trans (Fs.varPut va h7 _ _ _ _);have FIN:Hid (LkE H lb pb kb vS nw c (bEI K o none) (kT E o none) ((Wa.setCell ⟨bo,i*2,none⟩ (.int .i64 (bQ (t i) (hh i)).1)).setCell ⟨bo,i*2+1,none⟩ (.int .i64 (bQ (t i) (hh i)).2))/\dW bo (aC1 bQ t hh (i+1)) ((Wa.setCell ⟨bo,i*2,none⟩ (.int .i64 (bQ (t i) (hh i)).1)).setCell ⟨bo,i*2+1,none⟩ (.int .i64 (bQ (t i) (hh i)).2))/\Fs H true w ((Wa.setCell ⟨bo,i*2,none⟩ (.int .i64 (bQ (t i) (hh i)).1)).setCell ⟨bo,i*2+1,none⟩ (.int .i64 (bQ (t i) (hh i)).2))):=⟨P1,P2,P3⟩;clear P1 P2 P3 fa la va z0 z1 zf ha;generalize ((Wa.setCell ⟨bo,i*2,none⟩ (.int .i64 (bQ (t i) (hh i)).1)).setCell ⟨bo,i*2+1,none⟩ (.int .i64 (bQ (t i) (hh i)).2))=WF at*;go_wp2;go_roundg m
      case rel=>exact⟨i+1,Od,Oa,Oa,FIN.out⟩
      case measure=>omega
    ·obtain rfl:i=12:=Oa
     have v2:dW bo (fun j=>bQ (t j) (hh j)) WP:=v1.eq fun j hj=>(if_pos hj).symm;obtain⟨W2,h6,h2,f2⟩:=h1.putNew (q:=p) (k:=bo) (vs:=fun j=>bQ (t j) (hh j)) hp h7 v2 HN.out hc
     have H2:Hid (LkW H lb pb kb vS nw (c+1) (bEI (bEI K o none) p (lF (K p) (some t))) W2):=by
      rw[HP.out];exact⟨_,h2⟩
     have F2:Hid (Fs H true w W2):=F1.out.trans f2;clear h1 v1 f1 v2 h2 f2 H1 V1 F1 hm h0;go_wp2;go_end0
     exact⟨rfl,H2.out,F2.out⟩
end
section
open Go.RowKit Go.Lib Go.Deep Go.Maps Go.ChangeMaps Go.MapKept
variable {H lb pb kb vb xb nw c:Nat} {vS:Value} {K:Kn} {E:Int->Option Nat} {m:Bool} {S:Sl} {F:Fl} {alive:Bool} {vs:Vr} {u w w':World}
def eG(b:Nat)(m:Nat->Bool)(w:World):Prop:=∃ cs,w.heap[b]?=some (.cells cs 458 (0,0))/\∀ i,i < 12->cs[i]?=some (.bool (m i))
theorem eG.fs{b:Nat}{g:Nat->Bool}(h:eG b g w)(hx:Fs H m w w'):eG b g w':=by
 obtain⟨cs,hc,h1⟩:=h;exact⟨cs,hx.keep hc Ob (.inl Ob) (.inl Ob),h1⟩
theorem eG.at_{b:Nat}{g:Nat->Bool}(h:eG b g w){i:Nat}(hi:i < 12):w.cell? ⟨b,i,none⟩=some (.bool (g i)):=by
 obtain⟨cs,hc,h1⟩:=h;rw[cell_of_row _ _ _ _ _ _ hc];exact h1 i hi
def rE(g:Nat->Bool)(f:Nat->Rg)(vs:Vr)(i:Nat):Vr:=fun j=>if j < i/\g j=true then f j else vs j
theorem aQH{g:Nat->Bool}{f:Nat->Rg}{i:Nat}:rE g f vs i i=vs i:=Oh
theorem aE5{g:Nat->Bool}{f:Nat->Rg}{i:Nat}(h:g i=true):∀ j,rE g f vs (i+1) j=oT (rE g f vs i) i (f i) j:=fun j=>by
 show(if j < i+1/\g j=true then f j else vs j)=if j=i then f i else if j < i/\g j=true then f j else vs j
 by_cases e:j=i
 ·subst e;rw[if_pos ⟨Oa,h⟩,if_pos rfl]
 ·rw[if_neg e]
  by_cases e2:j < i/\g j=true
  ·rw[if_pos e2,if_pos ⟨Oa,e2.2⟩]
  ·rw[if_neg e2,if_neg (fun h=>e2 ⟨Oi h.1,h.2⟩)]
theorem aHX{g:Nat->Bool}{f:Nat->Rg}{i:Nat}(h:g i=false):∀ j,rE g f vs (i+1) j=rE g f vs i j:=fun j=>by
 show(if j < i+1/\g j=true then f j else vs j)=if j < i/\g j=true then f j else vs j
 by_cases e2:j < i/\g j=true
 ·rw[if_pos e2,if_pos ⟨Oa,e2.2⟩]
 ·rw[if_neg e2,if_neg];rintro⟨e3,e4⟩
  by_cases e:j=i
  ·subst e;rw[h]at e4;cases e4
  ·exact e2 ⟨Oa,e4⟩
theorem LkE.eqv{p:Int}{v v':Vr}(h:LkE H lb pb kb vS nw c (bEI K p (some v)) E w)(e:∀ i,i < 12->v' i=v i):LkE H lb pb kb vS nw c (bEI K p (some v')) E w:=by
 have e2:∀ q,(bEI K p (some v) q=none)=(bEI K p (some v') q=none):=fun q=>by
  unfold bEI
  split<;>simp
 refine⟨h.blk,h.map,fun q hq=>h.dead q (by rw[e2 q];exact hq),fun q vq hq=>?_,h.inj,fun q hq=>by rw[<-e2 q];exact h.far q hq,h.ge,h.few⟩
 by_cases h0:q=p
 ·subst h0;rw[bU]at hq;cases hq;obtain⟨b,h1,h2,h3⟩:=h.live q v (bU _ _ _);exact⟨b,h1,h2,h3.eq e⟩
 ·rw[cE h0]at hq;exact h.live q vq (by rw[cE h0];exact hq)
theorem aNW{mb:Nat}{g:Nat->Bool}(h:LkW H lb pb kb vS nw c K w)(p:Int)(hp:0<=p/\p<=9223372036854775807)(hK:K p=some vs)(hm:eG mb g w):
 Calls Tryz.prog 318 #[.pointer (some ⟨lb,0,none⟩),.int .i64 p,.pointer (some ⟨mb,0,none⟩)] w fun e w'=>e= .returned (.tuple #[])/\LkW H lb pb kb vS nw c (bEI K p (some (gL g vs))) w'/\Fs H true w w':=by
 obtain⟨E,h⟩:=h;obtain⟨c0,c1,c2,c3,cf⟩:=cO h.blk;obtain⟨b,hE,hH,hv⟩:=h.live p vs hK;have lk:=(h.at_ p hp).2;rw[hE]at lk
 change (Instr.lookup 170 (.map (some kb)) (.int .i64 p) false).run Tryz.prog w= .ok (.pointer (some ⟨b,0,none⟩)) w at lk
 have HE:Hid (E p=some b):=hE;have h7:Hid (LkE H lb pb kb vS nw c (bEI K p (some (rE g (fun _=>bEE) vs 0))) E w/\eG mb g w/\Fs H true w w):=⟨(h.congr fun q=>(mK hK q).symm).eqv (fun i _=>Oh),hm,Fs.refl _ _ _⟩;clear h hv hE hK hm;go_enter Tryz.func318,Tryz.ntmps318
 go_wp2_with fail
 go_loopg [14] 12 (fun m v wr=>∃ i:Nat,v= .int .i64 i/\i<=12/\12<=i+m/\LkE H lb pb kb vS nw c (bEI K p (some (rE g (fun _=>bEE) vs i))) E wr/\eG mb g wr/\Fs H true w wr)
 case atStart=>exact⟨0,rfl,Oa,Oa,h7.out⟩
 case round=>
  clear h7 lk c0 c1 c2 c3 cf;obtain⟨i,rfl,hi,h8,h1,m1,f1⟩:=hrel
  rename World=>WP
  have H1:Hid (LkE H lb pb kb vS nw c (bEI K p (some (rE g (fun _=>bEE) vs i))) E WP):=h1;have M1:Hid (eG mb g WP):=m1;have F1:Hid (Fs H true w WP):=f1;have h2:=h1.size
  by_cases h0:i < 12
  ·have hltI:0<=(i:Int)/\(i:Int) < 12:=Oa
   have mi:=m1.at_ h0;obtain⟨k,rfl⟩:=Oj gk;clear h1 m1 f1;cases hg:g i
   ·rw[hg]at mi;have FIN:Hid (LkE H lb pb kb vS nw c (bEI K p (some (rE g (fun _=>bEE) vs (i+1)))) E WP/\eG mb g WP/\Fs H true w WP):=⟨H1.out.eqv (fun j _=>aHX hg j),M1.out,F1.out⟩;clear hg H1 M1 F1;go_wp2;go_roundg k
    case rel=>exact⟨i+1,Od,Oa,Oa,FIN.out⟩
    case measure=>omega
   ·rw[hg]at mi;have HG:Hid (g i=true):=hg;clear hg;obtain⟨vb,h5,_,h3,_,_⟩:=H1.out.block HE.out;rw[bU]at h5;cases h5;obtain⟨xc,xf⟩:=h3.cells;obtain⟨x0,x1⟩:=xc i h0;clear xc h3;go_upto_region 5 with fail
    go_region_with (go_at_call 133;refine(rK _).mono ?_;rintro e Wa ⟨rfl,ha⟩;have fa:Fs H false WP.drew Wa:=Fs.of ha h2 false;have la:=H1.out.drew.fs fa;obtain⟨va,h6,hHa,h4,_,_⟩:=la.block HE.out;obtain⟨zc,zf⟩:=h4.cells;obtain⟨z0,z1⟩:=zc i h0;clear zc;rw[aS])
    all_goals
     rw[bU]at h6;cases h6;obtain⟨P1,P2⟩:=la.put HE.out (bU _ _ _) h0 bEE;have P3:LkE H lb pb kb vS nw c (bEI K p (some (rE g (fun _=>bEE) vs (i+1)))) E ((Wa.setCell ⟨b,i*2,none⟩ (.int .i64 bEE.1)).setCell ⟨b,i*2+1,none⟩ (.int .i64 bEE.2)):=(P1.congr bES).eqv (fun j _=>aE5 HG.out j)
     have FIN:Hid (LkE H lb pb kb vS nw c (bEI K p (some (rE g (fun _=>bEE) vs (i+1)))) E ((Wa.setCell ⟨b,i*2,none⟩ (.int .i64 bEE.1)).setCell ⟨b,i*2+1,none⟩ (.int .i64 bEE.2))/\eG mb g ((Wa.setCell ⟨b,i*2,none⟩ (.int .i64 bEE.1)).setCell ⟨b,i*2+1,none⟩ (.int .i64 bEE.2))/\Fs H true w ((Wa.setCell ⟨b,i*2,none⟩ (.int .i64 bEE.1)).setCell ⟨b,i*2+1,none⟩ (.int .i64 bEE.2))):=
      ⟨P3,M1.out.fs (((Fs.refl H true WP).drew.trans (Fs.of ha h2 true)).trans P2),(F1.out.drew.trans (Fs.of ha h2 true)).trans P2⟩
     clear P1 P2 P3 fa la h4 z0 z1 zf ha;generalize ((Wa.setCell ⟨b,i*2,none⟩ (.int .i64 bEE.1)).setCell ⟨b,i*2+1,none⟩ (.int .i64 bEE.2))=WF at*;go_wp2;go_roundg k
     case rel=>exact⟨i+1,Od,Oa,Oa,FIN.out⟩
     case measure=>omega
  ·obtain rfl:i=12:=Oa
   have FIN:Hid (LkW H lb pb kb vS nw c (bEI K p (some (gL g vs))) WP):=⟨E,h1.eqv (fun j hj=>by
    show(if g j=true then bEE else vs j)=if j < 12/\g j=true then bEE else vs j
    by_cases e:g j=true
    ·rw[if_pos e,if_pos ⟨hj,e⟩]
    ·rw[if_neg e,if_neg (fun k=>e k.2)])⟩
   clear h1 m1 f1 H1 M1 h8 h0;go_wp2;go_end0
   exact⟨rfl,FIN.out,F1.out⟩
end
section
open Go.RowKit Go.Lib Go.Deep Go.Maps Go.ChangeMaps Go.MapKept
variable {H lb pb kb vb xb nw c:Nat} {vS:Value} {K:Kn} {E:Int->Option Nat} {m:Bool} {S:Sl} {F:Fl} {alive:Bool} {vs:Vr} {u w w':World}
theorem FlW.at_(h:FlW H vS S F w){s:Nat}(hs:s < S.length)(x:Bool):∃ g cp q,vS= .slice (some ⟨g,0,none⟩) S.length cp/\w.cell? ⟨g,s*3+2,none⟩=some (.bool q)/\w.frozen? ⟨g,s*3+2,none⟩=false/\
 FlW H vS S (iD F s x) (w.setCell ⟨g,s*3+2,none⟩ (.bool x))/\Fs H false w (w.setCell ⟨g,s*3+2,none⟩ (.bool x)):=by
 rcases h.ex with⟨rfl,_⟩|⟨g,cp,cur,h1,h2,h3,h4⟩
 ·exact absurd hs Od
 ·refine⟨g,cp,F s,h1,Og h3 ((h4 s hs).2.2),by simp[World.frozen?,h3],⟨.inr ⟨g,cp,_,h1,h2,aM _ h3,fun i hi=>?_⟩⟩,(Fs.refl _ _ _).set h3 h2 (.inl ⟨rfl,rfl⟩) _ _⟩;obtain⟨e1,e2,e3⟩:=h4 i hi;refine⟨bT Oa e1,bT Oa e2,?_⟩
  by_cases e:i=s
  ·subst e;rw[nX e3];show _=some (Value.bool (if(i:Int)=(i:Int)then x else F i));rw[if_pos rfl]
  ·rw[bT Oa e3];show _=some (Value.bool (if(i:Int)=(s:Int)then x else F i));rw[Oh]
theorem bFM(h:VwW H lb pb vb xb vS S F alive vs w)(s:Nat)(hs:s < S.length)(b:Bool):
 Calls Tryz.prog 311 #[.pointer (some ⟨vb,0,none⟩),.int .i64 (s:Int),.bool b] w fun e w'=>e= .returned (.tuple #[])/\FlW H vS S (iD F s (b||!alive)) w'/\Fs H false w w':=by
 obtain⟨km,nv,hl⟩:=h.look;obtain⟨g,cp,q,rfl,q1,q2,h2,hx⟩:=h.fl.at_ hs (b||!alive);obtain⟨v0,v1,v2,_⟩:=aG h.view;obtain⟨l0,l1,_,_,_⟩:=cO hl;have HH:Hid _:=h2;have HX:Hid _:=hx;have hsI:0<=(s:Int)/\(s:Int) < (S.length:Int):=Oa
 clear h2 hx h hl;cases b<;>cases alive
 all_goals
  go_enter Tryz.func311,Tryz.ntmps311
  go_wp2_with fail
  go_region
  all_goals go_wp2
  all_goals go_end0
  all_goals exact⟨rfl,HH.out.same (fun _ _ _=>rfl),HX.out.drew⟩
end
section
open Go.RowKit Go.Lib Go.Deep Go.Maps Go.ChangeMaps Go.MapKept
theorem aSU(op:Int)(r s:Rg)(w:World)(ho:21<=op/\op<=26):Calls Tryz.prog 354 #[.int .i64 op,rgV r,rgV s] w fun e w'=>e= .returned (.bool (qL op r s))/\Below w.heap.size w w':=by
 obtain⟨a,b⟩:=r;obtain⟨x,y⟩:=s;show Calls _ _ #[_,.agg #[.int .i64 a,.int .i64 b],.agg #[.int .i64 x,.int .i64 y]] _ _;have bA:Below w.heap.size w ((w.alloc (.cells #[.int .i64 a,.int .i64 b] 259)).alloc (.cells #[.int .i64 x,.int .i64 y] 259)):=((Below.refl _ _).alloc Ol _).alloc Od _;obtain⟨b1,b2,HB,hz⟩:=aGU w (.cells #[.int .i64 a,.int .i64 b] 259) (.cells #[.int .i64 x,.int .i64 y] 259);have hc:op=21\/op=22\/op=23\/op=24\/op=25\/op=26:=Oa
 rcases hc with rfl|rfl|rfl|rfl|rfl|rfl
 ·have hn:=uT (a,b) ((w.alloc (.cells #[.int .i64 a,.int .i64 b] 259)).alloc (.cells #[.int .i64 x,.int .i64 y] 259));generalize h1:(w.alloc (.cells #[.int .i64 a,.int .i64 b] 259)).alloc (.cells #[.int .i64 x,.int .i64 y] 259)=W0 at*;obtain⟨p0,p1,p2⟩:=aH b1;cases hh:eH (a,b)
  ·rw[hh]at hn;have HF:Hid (qL 21 (a,b) (x,y)=false):=by show(eH (a,b)&&decide ((a,b)=(x,y)))=false;rw[hh];rfl
   rw[HF.out];clear hh;go_enter Tryz.func354,Tryz.ntmps354
   go_wp2_with fail
   refine hn.mono ?_;rintro e W ⟨rfl,h2⟩;have h0:Hid (Below w.heap.size w W):=HB.trans (h2.mono Oa);clear p0 p1 p2 b1 b2 h2 HB h1 bA;go_wp2;go_ret;exact⟨rfl,h0.out⟩
  ·rw[hh]at hn;have HF:Hid (qL 21 (a,b) (x,y)=decide ((a,b)=(x,y))):=by show(eH (a,b)&&decide ((a,b)=(x,y)))=_;rw[hh];rfl
   rw[HF.out];clear hh;go_enter Tryz.func354,Tryz.ntmps354
   go_wp2_with fail
   refine hn.mono ?_;rintro e W ⟨rfl,h2⟩;obtain⟨k0,k1,k2⟩:=aH ((h2.block _ Oa).trans b1);obtain⟨q0,q1,q2⟩:=aH ((h2.block _ Oa).trans b2);have h0:Hid (Below w.heap.size w W):=HB.trans (h2.mono Oa);clear p0 p1 p2 b1 b2 h2 HB h1 bA;go_wp2
   all_goals
    go_ret;exact⟨yL (by simp<;>omega),h0.out⟩
 ·have hn:=aRX (a,b) (x,y) ((w.alloc (.cells #[.int .i64 a,.int .i64 b] 259)).alloc (.cells #[.int .i64 x,.int .i64 y] 259));generalize h1:(w.alloc (.cells #[.int .i64 a,.int .i64 b] 259)).alloc (.cells #[.int .i64 x,.int .i64 y] 259)=W0 at*;obtain⟨p0,p1,p2⟩:=aH b1;obtain⟨q0,q1,q2⟩:=aH b2;go_enter Tryz.func354,Tryz.ntmps354
  go_wp2_with fail
  refine hn.mono ?_;rintro e W ⟨rfl,h2⟩;have h0:Hid (Below w.heap.size w W):=HB.trans (h2.mono Oa);clear p0 p1 p2 q0 q1 q2 b1 b2 h2 HB h1 bA;go_wp2_with fail
  refine(aI5 (jP (a,b) (x,y)) W).mono ?_;rintro e W2 ⟨rfl,h3⟩;have h4:Hid (Below w.heap.size w W2):=h0.out.trans (h3.mono (Oi h0.out.size));clear h3;go_wp2;go_ret;exact⟨rfl,h4.out⟩
 ·go_enter Tryz.func354,Tryz.ntmps354
  go_wp2;go_ret;exact⟨rfl,bA⟩
 ·go_enter Tryz.func354,Tryz.ntmps354
  go_wp2;go_ret;exact⟨rfl,bA⟩
 ·go_enter Tryz.func354,Tryz.ntmps354
  go_wp2;go_ret;exact⟨rfl,bA⟩
 ·go_enter Tryz.func354,Tryz.ntmps354
  go_wp2;go_ret;exact⟨rfl,bA⟩
end
section
open Go.RowKit Go.Lib Go.Deep
variable {lens:Nat->Int} {fl:List Tr}
def InL:List Rg->List Int->Prop
 |[],[]=>True
 |r::R,v::V=>inR r v/\InL R V
 |_,_=>False
theorem InL.app:∀ {R S:List Rg} {V U:List Int},InL R V->InL S U->InL (R++S) (V++U):=by
 intro R
 induction R with
 |nil=>intro S V U h k;cases V with
  |nil=>exact k
  |cons=>exact h.elim
 |cons r R ih=>intro S V U h k;cases V with
  |nil=>exact h.elim
  |cons v V=>exact⟨h.1,ih h.2 k⟩
theorem InL.hd{R:List Rg}{V:List Int}(h:InL R V):inR (hdR R) (YtikffmloeifkpaaGreatDoor.hd V):=by
 cases R with
 |nil=>cases V with
  |nil=>exact⟨Int.le_refl _,Int.le_refl _⟩
  |cons=>exact h.elim
 |cons r R=>cases V with
  |nil=>exact h.elim
  |cons v V=>exact h.1
theorem InL.args:∀ {R:List Rg} {V:List Int},InL R V->∀ i,inR (nY R i) (cI V i):=by
 intro R
 induction R with
 |nil=>intro V h i;cases V with
  |nil=>exact⟨Int.le_refl _,Int.le_refl _⟩
  |cons=>exact h.elim
 |cons r R ih=>intro V h i;cases V with
  |nil=>exact h.elim
  |cons v V=>cases i with
   |zero=>exact h.1
   |succ i=>exact ih h.2 i
def OkL(R:List Rg):Prop:=∀ r∈R,bV r
def I6(V:List Int):Prop:=∀ v∈V,i64 v
theorem bV.zero:bV (0,0):=⟨Ob,Ob,Ob⟩
theorem OkL.hd{R:List Rg}(h:OkL R):bV (hdR R):=by
 cases R with
 |nil=>exact bV.zero
 |cons r R=>exact h r (Qj ..)
theorem I6.hd{V:List Int}(h:I6 V):i64 (YtikffmloeifkpaaGreatDoor.hd V):=by
 cases V with
 |nil=>exact⟨Ob,Ob⟩
 |cons v V=>exact h v (Qj ..)
theorem OkL.one{r:Rg}(h:bV r):OkL [r]:=fun x hx=>by rw[List.mem_singleton.1 hx];exact h
theorem I6.one{v:Int}(h:i64 v):I6 [v]:=fun x hx=>by rw[List.mem_singleton.1 hx];exact h
structure SI(Fg:Fl)(r:Rn):Prop where
 arr:∀ i,i64 (r.arr i)
 sd:r.fin=2->Fg r.site=false
 no:r.fin≠2->r.site= -1
theorem SI.trap{Fg:Fl}{r:Rn}{s:Int}(h:SI Fg r)(hs:r.fin=0->Fg s=false):SI Fg (r.trap s):=by
 unfold Rn.trap
 split
 ·rename_i h0;exact⟨h.arr,fun _=>hs h0,fun k=>absurd rfl k⟩
 ·exact h
theorem SI.stop{Fg:Fl}{r:Rn}{e:Int}(h:SI Fg r)(he:e≠2):SI Fg (r.stop e):=by
 unfold Rn.stop
 split
 ·rename_i h0;exact⟨h.arr,fun k=>absurd k he,fun _=>h.no Oa⟩
 ·exact h
theorem SI.burn{Fg:Fl}{r:Rn}(h:SI Fg r):SI Fg r.burn:=by
 unfold Rn.burn
 split
 ·exact h.stop Ob
 split
 ·exact⟨h.arr,h.sd,h.no⟩
 ·exact h
theorem SI.out{Fg:Fl}{r:Rn}(h:SI Fg r)(v:Int):SI Fg (r.out v):=by
 unfold Rn.out
 split
 ·exact⟨h.arr,h.sd,h.no⟩
 ·exact h
end
section
open Go.RowKit Go.Lib Go.Deep
variable {lens:Nat->Int} {fl:List Tr} {C:Cl} {vars:Nat->Int} {vs:Vr} {Fg:Fl} {alive:Bool}
def tZ(fl:List Tr):Tr->Prop
 | .nil=>True
 | .node _ _ a l q=>tZ fl l/\tZ fl q/\(a.tag=3->a.site= -1->∀ vars,tkW vars (aU (fl.getD a.which.toNat .nil))=true)/\(a.tag=3->Ws 5 (aU (fl.getD a.which.toNat .nil)))
theorem fU{b o:Nat}{a:Nd}{l q:Tr}(h:(bEK (.node b o a l q)).Nodup):(bEK l).Nodup/\(bEK q).Nodup/\(∀ k∈bEK l,k ∉ bEK q)/\(dM a=true->a.site ∉ bEK l/\a.site ∉ bEK q):=by
 unfold bEK at h;rw[List.nodup_append]at h;obtain⟨_,h2,h3⟩:=h;rw[List.nodup_append]at h2;obtain⟨h4,h5,h6⟩:=h2;refine⟨h4,h5,fun k h7 h8=>h6 k h7 k h8 rfl,fun ho=>?_⟩;rw[if_pos ho]at h3;exact⟨fun h7=>h3 a.site (List.mem_singleton.2 rfl) a.site (List.mem_append_left _ h7) rfl,fun h7=>h3 a.site (List.mem_singleton.2 rfl) a.site (List.mem_append_right _ h7) rfl⟩
theorem pG{b o:Nat}{a:Nd}{l q:Tr}(h:dM a=true):a.site∈bEK (.node b o a l q):=by
 unfold bEK;rw[if_pos h];exact List.mem_append_left _ (List.mem_singleton.2 rfl)
theorem fR{b o:Nat}{a:Nd}{l q:Tr}{k:Int}(h:k∈bEK l):k∈bEK (.node b o a l q):=List.mem_append_right _ (List.mem_append_left _ h)
theorem gK{b o:Nat}{a:Nd}{l q:Tr}{k:Int}(h:k∈bEK q):k∈bEK (.node b o a l q):=List.mem_append_right _ (List.mem_append_right _ h)
structure ExS(Fg:Fl)(x:List Rg × Fl)(y:List Int × Rn):Prop where
 ok:OkL x.1
 num:I6 y.1
 si:SI Fg y.2
 on:y.2.fin=0->InL x.1 y.1
theorem dead{b:Bool}(h:b=true):(!b)=false:=by rw[h];rfl
end
end Go.Proofs.YtikffmloeifkpaaGreatDoor
