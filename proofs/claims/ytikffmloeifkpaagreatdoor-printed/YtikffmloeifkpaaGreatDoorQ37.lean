/- Contracts. -/
import Derived.Test.YtikffmloeifkpaaGreatDoorQ36
import Derived.ChangeKeysEq
namespace Go.Proofs.YtikffmloeifkpaaGreatDoor
open Go.RowKit Go.Lib Go.Deep Go.Maps Go.ChangeMaps Go.MapKept
theorem aHP(f:Vr)(w:World){j:Nat}(hj:j < 12):(part 259 (fK f) (j*2)).run Tryz.prog w= .ok (.agg #[.int .i64 (f j).1,.int .i64 (f j).2]) w:=by
 have hc:j=0\/j=1\/j=2\/j=3\/j=4\/j=5\/j=6\/j=7\/j=8\/j=9\/j=10\/j=11:=Oa
 rcases hc with rfl|rfl|rfl|rfl|rfl|rfl|rfl|rfl|rfl|rfl|rfl|rfl
 all_goals
  show(part 259 (fK f) _).run Tryz.prog w=Result.ok _ w
  kernel_rfl
theorem aT4(a b c d:Int)(n:Nat)(w:World):(Op.equalIn (n+2) 259 (.agg #[.int .i64 a,.int .i64 b]) (.agg #[.int .i64 c,.int .i64 d])).run Tryz.prog w= .ok (decide ((a,b)=(c,d))) w:=by
 have hs:Tryz.prog.stoodInHeld 259=false:=by kernel_rfl
 have hf:Tryz.prog.underlying 259=some (.struct (Tryz.prog.fieldsOf 259)):=by kernel_rfl
 rw[run_equalIn_struct w (n+1) 259 _ _ hf hs];have n1:(Tryz.prog.fieldsOf 259).toList.map (·.name)=["Least","Greatest"]:=by kernel_rfl
 have n2:(Tryz.prog.fieldsOf 259).toList.map (·.type)=[2,2]:=by kernel_rfl
 have n3:(Tryz.prog.fieldsOf 259).toList.map (·.offset)=[0,1]:=by kernel_rfl
 generalize (Tryz.prog.fieldsOf 259).toList=L at n1 n2 n3 ⊢
 obtain⟨x,y,rfl⟩:∃ x y,L=[x,y]:=by
  have hl:L.length=2:=by simpa using congrArg List.length n1
  match L,hl with
  |[x,y],_=>exact⟨x,y,rfl⟩
 simp only[List.map_cons,List.map_nil,List.cons.injEq,and_true]at n1 n2 n3;obtain⟨e2,e3⟩:=n1;obtain⟨e4,e5⟩:=n2;obtain⟨e6,e7⟩:=n3;have p1:∀ (u v:Int) (w:World),(part 2 #[.int .i64 u,.int .i64 v] 0).run Tryz.prog w= .ok (.int .i64 u) w:=fun u v w=>by kernel_rfl
 have p2:∀ (u v:Int) (w:World),(part 2 #[.int .i64 u,.int .i64 v] 1).run Tryz.prog w= .ok (.int .i64 v) w:=fun u v w=>by kernel_rfl
 have q:∀ (u v:Int) (w:World),(Op.equalIn (n+1) 2 (.int .i64 u) (.int .i64 v)).run Tryz.prog w= .ok (u==v) w:=fun u v w=>run_equalIn_int w n _ _ _ u v Tryz.underlying2;simp only[Op.eqFields,e2,e3,e4,e5,e6,e7]
 by_cases h1:a=c<;>by_cases h2:b=d<;>simp[h1,h2,p1,p2,q,Result.andThen]
theorem aO7(f g:Vr)(n:Nat)(w:World):∀ is:List Nat,(∀ j∈is,j < 12)->(Op.eqItems (n+2) 259 2 (fK f) (fK g) is).run Tryz.prog w= .ok (is.all fun j=>decide (f j=g j)) w:=by
 intro is
 induction is with
 |nil=>intro _;simp[Op.eqItems]
 |cons j is ih=>
  intro h;have hj:=h j (Qj ..);simp only[Op.eqItems,Sem.run_bind,aHP f w hj,aHP g w hj,aT4,Result.andThen_ok,List.all_cons];have ih2:=ih (fun k hk=>h k (Ql _ hk));show(Sem.run Tryz.prog (if(!decide (f j=g j))=true then pure false else _) w)=_;cases e:decide (f j=g j)
  ·rfl
  ·rw[Bool.true_and];exact ih2
theorem aNC(f g:Vr)(w:World):(binOp .neq 261 (.agg (fK f)) (.agg (fK g))).run Tryz.prog w= .ok (.bool (nJ f g)) w:=by
 have hs:(Tryz.prog.info? 259).isSome=true:=by kernel_rfl
 obtain⟨i,hi⟩:=Option.isSome_iff_exists.1 hs;have hc:Tryz.prog.cellsOf 259=2:=by kernel_rfl
 have h1:=run_equalIn_array w 9999 (fK f) (fK g) Tryz.underlying261 hi;rw[hc,aO7 f g 9997 w _ (fun j hj=>List.mem_range.1 hj)]at h1;have h2:=run_neq_struct (P:=Tryz.prog) w 261 (fK f) (fK g);rw[h2];have h3:(Op.equalIn 10000 261 (.agg (fK f)) (.agg (fK g))).run Tryz.prog w=_:=h1;rw[h3];show Result.ok (Value.bool (!(List.range 12).all fun j=>decide (f j=g j))) w=_
 have h4:(!(List.range 12).all fun j=>decide (f j=g j))=nJ f g:=by
  unfold nJ;generalize List.range 12=l
  have e:(fun j=>decide (f j≠g j))=fun j=>!decide (f j=g j):=by
   funext j
   by_cases e:f j=g j<;>simp[e]
  rw[List.not_all_eq_any_not,e]
 rw[h4]
variable {H lb pb kb vb xb nw c:Nat} {vS:Value} {K:Kn} {E:Int->Option Nat} {m:Bool} {S:Sl} {F:Fl} {alive:Bool} {vs:Vr} {u w w':World}
theorem dW.rng{b:Nat}(hv:dW b vs w):w.rangeAt b 0 (fK vs).toList:=by
 obtain⟨cs,hc,h2,h3⟩:=hv;intro j v hj;rw[Nat.zero_add,cell_of_row _ _ _ _ _ _ hc];have hjl:j < 24:=(List.getElem?_eq_some_iff.1 hj).1;rw[Array.getElem?_toList]at hj;have e1:∀ i,i < 12->(fK vs)[i*2]?=some (.int .i64 (vs i).1):=(pA vs).lo;have e2:∀ i,i < 12->(fK vs)[i*2+1]?=some (.int .i64 (vs i).2):=(pA vs).hi;rcases Nat.mod_two_eq_zero_or_one j with hm|hm
 ·obtain⟨i,rfl⟩:∃ i,j=i*2:=⟨j / 2,Oa⟩;rw[e1 i Oa]at hj;rw[h2 i Oa];exact hj
 ·obtain⟨i,rfl⟩:∃ i,j=i*2+1:=⟨j / 2,Oa⟩;rw[e2 i Oa]at hj;rw[h3 i Oa];exact hj
theorem aIP(W1:World)(vs:Vr):(W1.alloc (.cells bEU 261)).there W1.heap.size 0 (fK vs).size:=by
 intro j hj;have hk:=Qb W1 (.cells bEU 261);rw[Nat.zero_add,cell_of_row _ _ _ _ _ _ hk];have h0:j < 24:=hj;exact⟨by rw[Array.getElem?_eq_getElem (show j < bEU.size from h0)];rfl,zN hk _⟩
theorem aJZ{b:Nat}(hv:dW b vs w):(Instr.loadAt 261 (.pointer (some ⟨b,0,none⟩))).run Tryz.prog w= .ok (.agg (fK vs)) w:=by
 have:=run_loadAt_mid (P:=Tryz.prog) w b 0 261 (fK vs).toList _ hv.rng Tryz.underlying261 rfl (by kernel_rfl);simpa using this
theorem qK{o:Oper}{a:Act}{C:World->Prop}{Kq:Act->Prop}{b:Nat}(x:Operand)(ho:o.op= .load 261 x)(hx:a.eval x= .pointer (some ⟨b,0,none⟩))(hC:∀ w',C w'->dW b vs w')(hk:Kq (a.put o.dst (.agg (fK vs)))):o.quiet Tryz.prog a C Kq:=
 ⟨.agg (fK vs),fun w' hw=>by
   unfold Oper.quietAt execOp;simp only[ho,hx,Sem.run_bind,aJZ (hC w' hw),Result.andThen_ok,Sem.run_pure];exact⟨rfl,rfl⟩,hk⟩
def aP9(vs:Vr)(q:St)(g:Nat->Bool):St × Bool:=match q with
 |none=>(some vs,false)
 |some after=>(some (eJ g vs after),nJ (eJ g vs after) vs)
set_option maxRecDepth 100000 in
set_option maxHeartbeats 8000000 in
theorem aP7{mb:Nat}{g:Nat->Bool}(h:LkW H lb pb kb vS nw c K w)(p o:Int)(hp:0<=p/\p<=9223372036854775807)(ho:0<=o/\o<=9223372036854775807)(k8:p≠o)(hK:K p=some vs)(hm:eG mb g w):
 Calls Tryz.prog 317 #[.pointer (some ⟨lb,0,none⟩),.int .i64 p,.int .i64 o,.pointer (some ⟨mb,0,none⟩)] w fun e w'=>e= .returned (.bool (aP9 vs (K o) g).2)/\LkW H lb pb kb vS nw c (bEI K p (aP9 vs (K o) g).1) w'/\Fs H true w w':=by
 obtain⟨E,h⟩:=h;obtain⟨c0,c1,c2,c3,cf⟩:=cO h.blk;have lk:=(h.at_ o ho).1;cases hO:K o with
 |none=>
  rw[hO,h.dead o hO]at lk
  change (Instr.lookup 170 (.map (some kb)) (.int .i64 o) true).run Tryz.prog w= .ok (.tuple #[.pointer none,.bool false]) w at lk
  have FIN:Hid (LkW H lb pb kb vS nw c (bEI K p (some vs)) w):=⟨E,h.congr fun q=>(mK hK q).symm⟩;clear h hO hK hm;go_enter Tryz.func317,Tryz.ntmps317
  go_wp2;go_ret;exact⟨rfl,FIN.out,Fs.refl _ _ _⟩
 |some aft=>
  obtain⟨bo,k1,hHo,k7⟩:=h.live o aft hO;rw[hO,k1]at lk
  change (Instr.lookup 170 (.map (some kb)) (.int .i64 o) true).run Tryz.prog w= .ok (.tuple #[.pointer (some ⟨bo,0,none⟩),.bool true]) w at lk
  obtain⟨b,hE,hH,hv⟩:=h.live p vs hK;have lk2:=(h.at_ p hp).2;rw[hE]at lk2
  change (Instr.lookup 170 (.map (some kb)) (.int .i64 p) false).run Tryz.prog w= .ok (.pointer (some ⟨b,0,none⟩)) w at lk2
  have hbl:b < w.heap.size:=by obtain⟨cs,hc,_⟩:=hv;exact(Oo hc)
  have HR:Hid (w.rangeAt b 0 (fK vs).toList):=hv.rng;have HT:Hid _:=aIP w vs;have HE:Hid (E p=some b):=hE;have y6:Hid (E o=some bo):=k1;have HK:Hid (K p=some vs):=hK;have y5:Hid (K o=some aft):=hO;obtain⟨h6,b2⟩:=aEZ w vs HT.out;have k5:Hid (dW w.heap.size vs ((w.alloc (.cells bEU 261)).setCells w.heap.size 0 (fK vs).toList)/\Below w.heap.size w ((w.alloc (.cells bEU 261)).setCells w.heap.size 0 (fK vs).toList)):=⟨h6,b2⟩;have HH:Hid (LkE H lb pb kb vS nw c K E w):=h;have HM:Hid (eG mb g w):=hm;clear h k7 hv hE k1 hK hO hm h6 b2;go_enter Tryz.func317,Tryz.ntmps317
  go_upto_region 6 with(first
   |(refine wpList_load_mid rfl 261 (.tmp 32) rfl b 0 rfl (fK vs).toList _ HR.out Tryz.underlying261 rfl (by kernel_rfl) ?_)
   |(refine wpList_store_mid rfl 261 (.tmp 12) (.tmp 33) rfl w.heap.size 0 (fK vs) rfl rfl HT.out (aAK vs) (aD1 vs) ?_))
  dsimp only[Act.put]
  change Code.wp _ _ _ _ ((w.alloc (.cells bEU 261)).setCells w.heap.size 0 (fK vs).toList)
  generalize (w.alloc (.cells bEU 261)).setCells w.heap.size 0 (fK vs).toList=W2 at*;obtain⟨h6,b2⟩:=k5.out;have f2:Fs H false w W2:=Fs.of b2 HH.out.size false;have h2:=HH.out.fs f2
  have hn:∀ q,E q≠some w.heap.size:=fun q e=>by
   obtain⟨vq,_,_,⟨cs,y2,_⟩,_⟩:=HH.out.block e;have:=(Oo y2);omega
  have k4:Hid (LkE H lb pb kb vS nw c (bEI K p (some (rE g (fun j=>cH (vs j) (aft j)) vs 0))) E W2/\dW w.heap.size vs W2/\eG mb g W2/\Fs H true w W2):=⟨(h2.congr fun q=>(mK HK.out q).symm).eqv (fun i _=>Oh),h6,HM.out.fs f2,(Fs.of b2 HH.out.size true)⟩;clear h6 b2 f2 h2 hn k5 HR HT HH HM lk lk2 c0 c1 c2 c3 cf;go_wp2_with fail
  go_loopg [34] 12 (fun m v wr=>∃ i:Nat,v= .int .i64 i/\i<=12/\12<=i+m/\LkE H lb pb kb vS nw c (bEI K p (some (rE g (fun j=>cH (vs j) (aft j)) vs i))) E wr/\dW w.heap.size vs wr/\eG mb g wr/\Fs H true w wr)
  case atStart=>exact⟨0,rfl,Oa,Oa,k4.out⟩
  case round=>
   clear k4;obtain⟨i,rfl,hi,k9,h1,a1,m1,f1⟩:=hrel
   rename World=>WP
   have H1:Hid (LkE H lb pb kb vS nw c (bEI K p (some (rE g (fun j=>cH (vs j) (aft j)) vs i))) E WP):=h1;have A1:Hid (dW w.heap.size vs WP):=a1;have M1:Hid (eG mb g WP):=m1;have F1:Hid (Fs H true w WP):=f1;have k0:=h1.size
   by_cases h0:i < 12
   ·have hltI:0<=(i:Int)/\(i:Int) < 12:=Oa
    have mi:=m1.at_ h0;obtain⟨k,rfl⟩:=Oj gk;clear h1 m1 f1 a1;cases hg:g i
    ·rw[hg]at mi;have FIN:Hid (LkE H lb pb kb vS nw c (bEI K p (some (rE g (fun j=>cH (vs j) (aft j)) vs (i+1)))) E WP/\dW w.heap.size vs WP/\eG mb g WP/\Fs H true w WP):=⟨H1.out.eqv (fun j _=>aHX hg j),A1.out,M1.out,F1.out⟩;clear hg H1 M1 F1 A1;go_wp2;go_roundg k
     case rel=>exact⟨i+1,Od,Oa,Oa,FIN.out⟩
     case measure=>omega
    ·rw[hg]at mi;have HG:Hid (g i=true):=hg;clear hg;obtain⟨vb,h8,_,h5,_,_⟩:=H1.out.block HE.out;rw[bU]at h8;cases h8;obtain⟨xc,xf⟩:=h5.cells;obtain⟨x0,x1⟩:=xc i h0;rw[aQH]at x0 x1;obtain⟨vo,h7,_,h4,_,_⟩:=H1.out.block y6.out;rw[cE k8.symm,y5.out]at h7;cases h7;obtain⟨yc,yf⟩:=h4.cells;obtain⟨y0,y1⟩:=yc i h0;clear xc h5 yc h4;go_upto_region 10 with fail
     go_region_with (go_at_call 345;refine(aP8 (vs i) (aft i) _).mono ?_;rintro e Wa ⟨rfl,ha⟩;have fa:Fs H false WP.drew Wa:=Fs.of ha k0 false;have la:=H1.out.drew.fs fa;obtain⟨va,k3,hHa,k2,_,_⟩:=la.block HE.out;obtain⟨zc,zf⟩:=k2.cells;obtain⟨z0,z1⟩:=zc i h0;clear zc;rw[aS])
     all_goals
      rw[bU]at k3;cases k3;obtain⟨P1,P2⟩:=la.put HE.out (bU _ _ _) h0 (cH (vs i) (aft i));have P3:LkE H lb pb kb vS nw c (bEI K p (some (rE g (fun j=>cH (vs j) (aft j)) vs (i+1)))) E ((Wa.setCell ⟨b,i*2,none⟩ (.int .i64 (cH (vs i) (aft i)).1)).setCell ⟨b,i*2+1,none⟩ (.int .i64 (cH (vs i) (aft i)).2)):=(P1.congr bES).eqv (fun j _=>aE5 HG.out j);have P4:dW w.heap.size vs ((Wa.setCell ⟨b,i*2,none⟩ (.int .i64 (cH (vs i) (aft i)).1)).setCell ⟨b,i*2+1,none⟩ (.int .i64 (cH (vs i) (aft i)).2)):=((A1.out.same (w':=WP.drew) rfl).fs fa).same (pX _ Oa)
      have FIN:Hid (LkE H lb pb kb vS nw c (bEI K p (some (rE g (fun j=>cH (vs j) (aft j)) vs (i+1)))) E ((Wa.setCell ⟨b,i*2,none⟩ (.int .i64 (cH (vs i) (aft i)).1)).setCell ⟨b,i*2+1,none⟩ (.int .i64 (cH (vs i) (aft i)).2))/\dW w.heap.size vs ((Wa.setCell ⟨b,i*2,none⟩ (.int .i64 (cH (vs i) (aft i)).1)).setCell ⟨b,i*2+1,none⟩ (.int .i64 (cH (vs i) (aft i)).2))/\eG mb g ((Wa.setCell ⟨b,i*2,none⟩ (.int .i64 (cH (vs i) (aft i)).1)).setCell ⟨b,i*2+1,none⟩ (.int .i64 (cH (vs i) (aft i)).2))/\Fs H true w ((Wa.setCell ⟨b,i*2,none⟩ (.int .i64 (cH (vs i) (aft i)).1)).setCell ⟨b,i*2+1,none⟩ (.int .i64 (cH (vs i) (aft i)).2))):=
       ⟨P3,P4,M1.out.fs (((Fs.refl H true WP).drew.trans (Fs.of ha k0 true)).trans P2),(F1.out.drew.trans (Fs.of ha k0 true)).trans P2⟩
      clear P1 P2 P3 P4 fa la k2 z0 z1 zf ha;generalize ((Wa.setCell ⟨b,i*2,none⟩ (.int .i64 (cH (vs i) (aft i)).1)).setCell ⟨b,i*2+1,none⟩ (.int .i64 (cH (vs i) (aft i)).2))=WF at*;go_wp2;go_roundg k
      case rel=>exact⟨i+1,Od,Oa,Oa,FIN.out⟩
      case measure=>omega
   ·obtain rfl:i=12:=Oa
    have h3:LkE H lb pb kb vS nw c (bEI K p (some (eJ g vs aft))) E WP:=h1.eqv (fun j hj=>by
     show(if g j=true then cH (vs j) (aft j)else vs j)=if j < 12/\g j=true then cH (vs j) (aft j)else vs j
     by_cases e:g j=true
     ·rw[if_pos e,if_pos ⟨hj,e⟩]
     ·rw[if_neg e,if_neg (fun k=>e k.2)])
    obtain⟨vb,h8,_,h5,_,_⟩:=h3.block HE.out;rw[bU]at h8;cases h8;have FIN:Hid (LkW H lb pb kb vS nw c (bEI K p (aP9 vs (some aft) g).1) WP):=⟨E,h3⟩;have y3:Hid (dW b (eJ g vs aft) WP):=h5;have y4:Hid (dW w.heap.size vs WP):=a1;have hq:=aNC (eJ g vs aft) vs;clear h1 m1 f1 a1 H1 M1 A1 k9 h0 h3 h5;go_wp2_with fail
    refine wp_region_quiet_lit (by kernel_rfl) (by kernel_rfl) ?_;go_big_quiet_step (fail)
    go_big_quiet_step (fail)
    go_big_quiet_want
    refine qK (vs:=eJ g vs aft) (.tmp 59) rfl rfl (fun w' hw=>by obtain⟨n,rfl⟩:=hw;exact y3.out.same rfl) ?_;simp only[Act.put,List.setIfInBounds_toArray,List.set_cons_zero,List.set_cons_succ];go_big_quiet_on
    go_big_quiet_want
    refine qK (vs:=vs) (.tmp 12) rfl rfl (fun w' hw=>by obtain⟨n,rfl⟩:=hw;exact y4.out.same rfl) ?_;simp only[Act.put,List.setIfInBounds_toArray,List.set_cons_zero,List.set_cons_succ];go_big_quiet_on
    go_big_quiet_step (fail)
    go_big_quiet_step (fail)
    refine wpQuiet_nil ?_;intro _ k6;obtain⟨nq,h9⟩:=k6;subst h9;go_wp2;go_ret;exact⟨rfl,FIN.out.drewN _,F1.out.drewN _⟩
end Go.Proofs.YtikffmloeifkpaaGreatDoor
