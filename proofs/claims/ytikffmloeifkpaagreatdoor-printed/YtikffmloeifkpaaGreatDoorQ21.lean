/- Contracts. -/
import Derived.Test.YtikffmloeifkpaaGreatDoorQ20
set_option maxHeartbeats 8000000
set_option maxRecDepth 100000
namespace Go.Proofs.YtikffmloeifkpaaGreatDoor
section
open Go.RowKit Go.Lib Go.Deep Go.ChangeMaps Go.MapKept
variable {B pb rb:Nat} {r:Rn} {w w' u:World}
structure RnC(pb:Nat)(r:Rn)(vO:Value)(cs:Array Value):Prop where
 prog:cs[0]?=some (.pointer (some ⟨pb,0,none⟩))
 arr:∀ i,i < 384->cs[i+1]?=some (.int .i64 (r.arr i))
 fuel:cs[385]?=some (.int .i64 r.fuel)
 calls:cs[386]?=some (.int .i64 r.calls)
 fin:cs[387]?=some (.int .i64 r.fin)
 value:cs[388]?=some (.int .i64 0)
 site:cs[389]?=some (.int .i64 r.site)
 outs:cs[390]?=some vO
structure RnW(B pb rb:Nat)(r:Rn)(w:World):Prop where
 ex:∃ cs vO,w.heap[rb]?=some (.cells cs 162 (0,0))/\RnC pb r vO cs/\w.ownsRow B 2 1 vO r.outs.length (r.outs.map (Value.int .i64))
 ge:B<=rb
 few:r.fuel<=20000/\r.calls<=61/\r.outs.length<=1000000
structure Wx(B rb:Nat)(w w':World):Prop where
 os:w'.os=w.os
 tape:w'.tape=w.tape
 output:w'.output=w.output
 size:w.heap.size<=w'.heap.size
 low:∀ k,k < B->k≠rb->k < w.heap.size->w'.heap[k]?=w.heap[k]?
 block:∀ k cs t,w.heap[k]?=some (.cells cs t (0,0))->k≠rb->t≠2->w'.heap[k]?=some (.cells cs t (0,0))
theorem Wx.refl(B rb:Nat)(w:World):Wx B rb w w:=⟨rfl,rfl,rfl,Qc _,fun _ _ _ _=>rfl,fun _ _ _ h _ _=>h⟩
theorem Wx.trans(h:Wx B rb u w)(k:Wx B rb w w'):Wx B rb u w':=
 ⟨k.os.trans h.os,k.tape.trans h.tape,k.output.trans h.output,Qd h.size k.size,fun i h1 h2 h3=>(k.low i h1 h2 (Nat.lt_of_lt_of_le h3 h.size)).trans (h.low i h1 h2 h3),fun i cs t h1 h2 h3=>k.block i cs t (h.block i cs t h1 h2 h3) h2 h3⟩
theorem Wx.set(h:Wx B rb u w)(o:Nat)(v:Value):Wx B rb u (w.setCell ⟨rb,o,none⟩ v):=
 h.trans ⟨rfl,rfl,rfl,by simp[World.setCell],fun _ _ h2 _=>Om h2,fun _ _ _ h1 h2 _=>(Om h2).trans h1⟩
theorem Wx.alloc(h:Wx B rb u w)(o:Obj):Wx B rb u (w.alloc o):=
 h.trans ⟨rfl,rfl,rfl,Od,fun _ _ _ h3=>On h3,fun _ _ _ h1 _ _=>(On (Oo h1)).trans h1⟩
theorem Wx.drewN(h:Wx B rb u w)(n:Nat):Wx B rb u (w.drewN n):=⟨h.os,h.tape,h.output,h.size,h.low,h.block⟩
theorem Wx.drew(h:Wx B rb u w):Wx B rb u w.drew:=⟨h.os,h.tape,h.output,h.size,h.low,h.block⟩
theorem RnW.drewN(h:RnW B pb rb r w)(n:Nat):RnW B pb rb r (w.drewN n):=⟨h.ex,h.ge,h.few⟩
theorem RnW.drew(h:RnW B pb rb r w):RnW B pb rb r w.drew:=⟨h.ex,h.ge,h.few⟩
theorem RnW.cells(h:RnW B pb rb r w):w.cell? ⟨rb,0,none⟩=some (.pointer (some ⟨pb,0,none⟩))/\w.cell? ⟨rb,385,none⟩=some (.int .i64 r.fuel)/\w.cell? ⟨rb,386,none⟩=some (.int .i64 r.calls)/\w.cell? ⟨rb,387,none⟩=some (.int .i64 r.fin)/\w.cell? ⟨rb,389,none⟩=some (.int .i64 r.site)/\∀ o,w.frozen? ⟨rb,o,none⟩=false:=by
 obtain⟨cs,vO,hc,h1,_⟩:=h.ex;exact⟨Og hc h1.prog,Og hc h1.fuel,Og hc h1.calls,Og hc h1.fin,Og hc h1.site,fun o=>by simp[World.frozen?,hc]⟩
theorem RnW.arrAt(h:RnW B pb rb r w){i:Nat}(hi:i < 384):w.cell? ⟨rb,i+1,none⟩=some (.int .i64 (r.arr i)):=by
 obtain⟨cs,vO,hc,h1,_⟩:=h.ex;rw[cell_of_row _ _ _ _ _ _ hc];exact h1.arr i hi
theorem RnW.put(h:RnW B pb rb r w){o:Nat}{v:Value}{r':Rn}(hf:r'.fuel<=20000/\r'.calls<=61)(ho:r'.outs=r.outs)(hn:∀ (cs:Array Value) (vO:Value),RnC pb r vO cs->RnC pb r' vO (cs.setIfInBounds o v)):RnW B pb rb r' (w.setCell ⟨rb,o,none⟩ v):=by
 obtain⟨cs,vO,hc,h1,h2⟩:=h.ex;refine⟨⟨_,vO,aM v hc,hn cs vO h1,?_⟩,h.ge,hf.1,hf.2,by rw[ho];exact h.few.2.2⟩;rw[ho]
 exact cD h2 (fun k hk=>by
  obtain⟨⟨c,h0⟩,_⟩:=bEH h2 hk;exact Om (bEF h0 hc Ob))
theorem bT{cs:Array Value}{o j:Nat}{v x:Value}(hn:o≠j)(h:cs[j]?=some x):(cs.setIfInBounds o v)[j]?=some x:=(Qh hn).trans h
theorem nX{cs:Array Value}{o:Nat}{v x:Value}(h:cs[o]?=some x):(cs.setIfInBounds o v)[o]?=some v:=by rw[Array.getElem?_setIfInBounds_self_of_lt (Oo h)]
theorem RnC.setFuel{vO:Value}{cs:Array Value}(h:RnC pb r vO cs)(n:Nat):RnC pb {r with fuel:=n} vO (cs.setIfInBounds 385 (.int .i64 n)):=
 ⟨bT Oa h.prog,fun i hi=>bT Oa (h.arr i hi),nX h.fuel,bT Oa h.calls,bT Oa h.fin,bT Oa h.value,bT Oa h.site,bT Oa h.outs⟩
theorem RnC.setCalls{vO:Value}{cs:Array Value}(h:RnC pb r vO cs)(n:Nat):RnC pb {r with calls:=n} vO (cs.setIfInBounds 386 (.int .i64 n)):=
 ⟨bT Oa h.prog,fun i hi=>bT Oa (h.arr i hi),bT Oa h.fuel,nX h.calls,bT Oa h.fin,bT Oa h.value,bT Oa h.site,bT Oa h.outs⟩
theorem RnC.setFin{vO:Value}{cs:Array Value}(h:RnC pb r vO cs)(n:Int):RnC pb {r with fin:=n} vO (cs.setIfInBounds 387 (.int .i64 n)):=
 ⟨bT Oa h.prog,fun i hi=>bT Oa (h.arr i hi),bT Oa h.fuel,bT Oa h.calls,nX h.fin,bT Oa h.value,bT Oa h.site,bT Oa h.outs⟩
theorem RnC.setSite{vO:Value}{cs:Array Value}(h:RnC pb r vO cs)(n:Int):RnC pb {r with site:=n} vO (cs.setIfInBounds 389 (.int .i64 n)):=
 ⟨bT Oa h.prog,fun i hi=>bT Oa (h.arr i hi),bT Oa h.fuel,bT Oa h.calls,bT Oa h.fin,bT Oa h.value,nX h.site,bT Oa h.outs⟩
theorem RnC.setArr{vO:Value}{cs:Array Value}(h:RnC pb r vO cs){k:Nat}(hk:k < 384)(v:Int):RnC pb {r with arr:=upd r.arr k v} vO (cs.setIfInBounds (k+1) (.int .i64 v)):=by
 refine⟨bT Oa h.prog,fun i hi=>?_,bT Oa h.fuel,bT Oa h.calls,bT Oa h.fin,bT Oa h.value,bT Oa h.site,bT Oa h.outs⟩
 by_cases e:i=k
 ·subst e;rw[nX (h.arr i hi)];show _=some (Value.int .i64 (upd r.arr i v i));rw[show upd r.arr i v i=v from if_pos rfl]
 ·rw[bT Oa (h.arr i hi)];show _=some (Value.int .i64 (upd r.arr k v i));rw[show upd r.arr k v i=r.arr i from if_neg e]
theorem nM(w:World)(h:RnW B pb rb r w):Calls Tryz.prog 80 #[.pointer (some ⟨rb,0,none⟩)] w fun e w'=>e= .returned (.bool (r.fin !=0))/\w=w':=by
 obtain⟨_,_,_,g,_,_⟩:=h.cells;clear h;go_enter Tryz.func80,Tryz.ntmps80
 go_wp2;go_ret;exact⟨rfl,rfl⟩
theorem pD(k:Int)(w:World)(h:RnW B pb rb r w):Calls Tryz.prog 78 #[.pointer (some ⟨rb,0,none⟩),.int .i64 k] w fun e w'=>e= .returned (.tuple #[])/\RnW B pb rb (r.stop k) w'/\Wx B rb w w':=by
 obtain⟨_,_,_,g,_,z⟩:=h.cells
 by_cases h0:r.fin=0
 ·have t0:(r.fin !=0)=false:=by simp[h0]
  have FIN:Hid (RnW B pb rb (r.stop k) (w.setCell ⟨rb,387,none⟩ (.int .i64 k))):=by
   rw[Hid,show r.stop k={r with fin:=k}from if_pos h0];exact h.put ⟨h.few.1,h.few.2.1⟩ rfl (fun cs vO hc=>hc.setFin k)
  have HW:Hid (Calls Tryz.prog 80 #[.pointer (some ⟨rb,0,none⟩)] w fun e w'=>e= .returned (.bool (r.fin !=0))/\w=w'):=nM w h;clear h h0;go_enter Tryz.func78,Tryz.ntmps78
  go_wp2_with fail
  refine HW.out.mono ?_;rintro e w' ⟨rfl,rfl⟩;go_wp2;go_end0
  exact⟨rfl,FIN.out,(Wx.refl _ _ _).set _ _⟩
 ·have t0:(r.fin !=0)=true:=by simp[h0]
  have FIN:Hid (RnW B pb rb (r.stop k) w):=by rw[Hid,show r.stop k=r from if_neg h0];exact h
  have HW:Hid (Calls Tryz.prog 80 #[.pointer (some ⟨rb,0,none⟩)] w fun e w'=>e= .returned (.bool (r.fin !=0))/\w=w'):=nM w h;clear h h0;go_enter Tryz.func78,Tryz.ntmps78
  go_wp2_with fail
  refine HW.out.mono ?_;rintro e w' ⟨rfl,rfl⟩;go_wp2;go_end0
  exact⟨rfl,FIN.out,Wx.refl _ _ _⟩
end
section
open Go.RowKit Go.Lib Go.Deep Go.ChangeMaps Go.MapKept
variable {B pb rb:Nat} {r:Rn} {w w' u:World}
theorem qQ(k:Int)(w:World)(h:RnW B pb rb r w):Calls Tryz.prog 305 #[.pointer (some ⟨rb,0,none⟩),.int .i64 k] w fun e w'=>e= .returned (.tuple #[])/\RnW B pb rb (r.trap k) w'/\Wx B rb w w':=by
 have HW:Hid (Calls Tryz.prog 80 #[.pointer (some ⟨rb,0,none⟩)] w fun e w'=>e= .returned (.bool (r.fin !=0))/\w=w'):=nM w h
 by_cases h0:r.fin=0
 ·have t0:(r.fin !=0)=false:=by simp[h0]
  have HS:Hid (Calls Tryz.prog 78 #[.pointer (some ⟨rb,0,none⟩),.int .i64 2] w fun e w'=>e= .returned (.tuple #[])/\RnW B pb rb (r.stop 2) w'/\Wx B rb w w'):=pD 2 w h
  have FIN:Hid (∀ w2,RnW B pb rb (r.stop 2) w2->RnW B pb rb (r.trap k) (w2.setCell ⟨rb,389,none⟩ (.int .i64 k))):=by
   intro w2 h2;rw[show r.trap k={(r.stop 2)with site:=k}by unfold Rn.trap Rn.stop;rw[if_pos h0,if_pos h0]];exact h2.put ⟨h2.few.1,h2.few.2.1⟩ rfl (fun cs vO hc=>hc.setSite k)
  clear h h0;go_enter Tryz.func305,Tryz.ntmps305
  go_wp2_with fail
  refine HW.out.mono ?_;rintro e w' ⟨rfl,rfl⟩;go_wp2_with fail
  refine HS.out.mono ?_;rintro e W2 ⟨rfl,h2,x2⟩;obtain⟨_,_,_,_,g,z⟩:=h2.cells;have HF:Hid _:=FIN.out W2 h2;have HX:Hid _:=x2;clear FIN h2 x2;go_wp2;go_end0
  exact⟨rfl,HF.out,HX.out.set _ _⟩
 ·have t0:(r.fin !=0)=true:=by simp[h0]
  have FIN:Hid (RnW B pb rb (r.trap k) w):=by rw[Hid,show r.trap k=r from if_neg h0];exact h
  clear h h0;go_enter Tryz.func305,Tryz.ntmps305
  go_wp2_with fail
  refine HW.out.mono ?_;rintro e w' ⟨rfl,rfl⟩;go_wp2;go_end0
  exact⟨rfl,FIN.out,Wx.refl _ _ _⟩
theorem aDD(e:Int)(he:e≠0):(r.stop e).fin≠0:=by
 unfold Rn.stop
 by_cases h:r.fin=0
 ·rw[if_pos h];exact he
 ·rw[if_neg h];exact h
theorem rH(w:World)(h:RnW B pb rb r w):Calls Tryz.prog 131 #[.pointer (some ⟨rb,0,none⟩)] w fun e w'=>e= .returned (.bool r.burns)/\RnW B pb rb r.burn w'/\Wx B rb w w':=by
 obtain⟨_,g,_,_,_,z⟩:=h.cells
 by_cases hf:r.fuel=0
 ·have t1:((r.fuel:Int)==0)=true:=by simp[hf]
  have hb:r.burns=false:=by unfold Rn.burns;simp[hf]
  have hr:r.burn=r.stop 3:=if_pos hf;have hn:=aDD (r:=r) 3 Ob;rw[hb,hr];have HS:Hid (Calls Tryz.prog 78 #[.pointer (some ⟨rb,0,none⟩),.int .i64 3] w fun e w'=>e= .returned (.tuple #[])/\RnW B pb rb (r.stop 3) w'/\Wx B rb w w'):=pD 3 w h;have t2:((r.stop 3).fin !=0)=true:=by simp[hn]
  clear h hf hb hr hn;go_enter Tryz.func131,Tryz.ntmps131
  go_wp2_with fail
  refine HS.out.mono ?_;rintro e W2 ⟨rfl,h2,x2⟩;have HX:Hid _:=x2;have HH:Hid _:=h2;go_wp2_with fail
  refine(nM W2 h2).mono ?_;rintro e w' ⟨rfl,rfl⟩;go_wp2;go_ret;exact⟨rfl,HH.out,HX.out⟩
 ·have t1:((r.fuel:Int)==0)=false:=by simp[hf]
  have HO:Hid (Calls Tryz.prog 80 #[.pointer (some ⟨rb,0,none⟩)] w fun e w'=>e= .returned (.bool (r.fin !=0))/\w=w'):=nM w h;have hge:1<=r.fuel/\r.fuel<=20000:=⟨Oa,h.few.1⟩
  by_cases h0:r.fin=0
  ·have t2:(r.fin !=0)=false:=by simp[h0]
   have hb:r.burns=true:=by unfold Rn.burns;simp[hf,h0]
   have hr:r.burn={r with fuel:=r.fuel - 1}:=by unfold Rn.burn;rw[if_neg hf,if_pos h0]
   have FIN:Hid (RnW B pb rb r.burn (w.setCell ⟨rb,385,none⟩ (.int .i64 ((r.fuel:Int) - 1)))):=by
    rw[Hid,hr,show((r.fuel:Int) - 1)=((r.fuel - 1:Nat):Int)by omega];exact h.put ⟨by show r.fuel - 1<=20000;omega,h.few.2.1⟩ rfl (fun cs vO hc=>hc.setFuel _)
   rw[hb];clear h h0 hf hb hr;go_enter Tryz.func131,Tryz.ntmps131
   go_wp2_with fail
   refine HO.out.mono ?_;rintro e w' ⟨rfl,rfl⟩;go_wp2;go_ret;exact⟨rfl,FIN.out,(Wx.refl _ _ _).set _ _⟩
  ·have t2:(r.fin !=0)=true:=by simp[h0]
   have hb:r.burns=false:=by unfold Rn.burns;simp[h0]
   have hr:r.burn=r:=by unfold Rn.burn;rw[if_neg hf,if_neg h0]
   have HH:Hid (RnW B pb rb r w):=h;rw[hb,hr];clear h h0 hf hb hr;go_enter Tryz.func131,Tryz.ntmps131
   go_wp2_with fail
   refine HO.out.mono ?_;rintro e w' ⟨rfl,rfl⟩;go_wp2;go_ret;exact⟨rfl,HH.out,Wx.refl _ _ _⟩
structure FmC(rb:Nat)(vars:Nat->Int)(value:Int)(cs:Array Value):Prop where
 run:cs[0]?=some (.pointer (some ⟨rb,0,none⟩))
 vars:∀ i,i < 12->cs[i+1]?=some (.int .i64 (vars i))
 value:cs[13]?=some (.int .i64 value)
def FmW(rb fb:Nat)(vars:Nat->Int)(value:Int)(w:World):Prop:=At w fb 165 (FmC rb vars value)
variable {fb:Nat} {vars:Nat->Int} {value:Int}
theorem FmW.wx(h:FmW rb fb vars value w)(hx:Wx B rb w w')(h0:fb≠rb):FmW rb fb vars value w':=by
 obtain⟨cs,hc,h1⟩:=h;exact⟨cs,hx.block _ _ _ hc h0 Ob,h1⟩
theorem FmW.ne(h:FmW rb fb vars value w)(hr:RnW B pb rb r w):fb≠rb:=by
 obtain⟨cs,hc,_⟩:=h;obtain⟨cs2,_,h0,_⟩:=hr.ex;exact bEF hc h0 Ob
theorem FmW.cells(h:FmW rb fb vars value w):w.cell? ⟨fb,0,none⟩=some (.pointer (some ⟨rb,0,none⟩))/\w.cell? ⟨fb,13,none⟩=some (.int .i64 value)/\(∀ i,i < 12->w.cell? ⟨fb,i+1,none⟩=some (.int .i64 (vars i)))/\∀ o,w.frozen? ⟨fb,o,none⟩=false:=by
 obtain⟨cs,hc,h1⟩:=h;exact⟨Og hc h1.run,Og hc h1.value,fun i hi=>Og hc (h1.vars i hi),fun o=>by simp[World.frozen?,hc]⟩
end
section
open Go.RowKit Go.Lib Go.Deep Go.ChangeMaps Go.MapKept
variable {B pb rb fb:Nat} {r:Rn} {w w' u:World} {vars:Nat->Int} {value:Int} {al fl:List Tr}
theorem At.wx{b:Nat}{t:TypeId}{Q:Array Value->Prop}(h:At w b t Q)(hr:RnW B pb rb r w)(hx:Wx B rb w w')(h1:t≠2)(h2:t≠162):At w' b t Q:=by
 obtain⟨cs,hc,hq⟩:=h;obtain⟨c2,_,h0,_⟩:=hr.ex;exact⟨cs,hx.block _ _ _ hc (bEF hc h0 h2) h1,hq⟩
theorem rS(l:Tr):bL l≠2/\bL l≠162:=by
 constructor<;>(unfold bL;repeat' split)<;>decide
theorem dH.wx{n b:Nat}{a:Nd}{l q:Tr}(hr:RnW B pb rb r w)(hx:Wx B rb w w')(h:dH n w b a l q):dH n w' b a l q:=by
 match n,h with
 |0,h|1,h|2,h|3,h|4,h|5,h|6,h|7,h|8,h|9,h|10,h|11,h|12,h|13,h|14,h|16,h|17,h=>exact At.wx h hr hx Ob Ob
 |20,h=>exact⟨h.1,h.2.wx hr hx (rS _).1 (rS _).2⟩
 |15,_|18,_|19,_=>trivial
 |n+21,_=>trivial
theorem IsT.wx(hr:RnW B pb rb r w)(hx:Wx B rb w w'):∀ {t:Tr},IsT w t->IsT w' t:=by
 intro t
 induction t with
 |nil=>intro _;trivial
 |node b o a l q ihl ihr=>intro h;exact⟨ihl h.1,ihr h.2.1,dH.wx hr hx h.2.2⟩
theorem aN0{base n sz:Nat}{e:TypeId}{v:Value}{xs:List Value}(h:w.ownsRow base e sz v n xs)(hr:RnW B pb rb r w)(hx:Wx B rb w w')(h1:e≠2)(h2:e≠162):w'.ownsRow base e sz v n xs:=
 cD h (fun k hk=>by
  obtain⟨⟨cs,hc⟩,_⟩:=bEH h hk;obtain⟨c2,_,h0,_⟩:=hr.ex;rw[hc];exact hx.block _ _ _ hc (bEF hc h0 h2) h1)
structure PgX(pb:Nat)(al fl:List Tr)(w:World):Prop where
 prog:∃ it vA vF m vS H,w.heap[pb]?=some (.cells (qM it vA vF m vS) 111 (0,0))/\w.ownsRow H 192 1 vA al.length (al.map cB)/\aAG H vF fl w
 arr:∀ e∈al,∃ b o a l q,e= .node b o a l q/\At w b 196 (fun cs=>cs[3]?=some (.int .i64 a.val))/\1<=a.val/\a.val<=64
 few:al.length<=6
 fns:∀ e∈fl,IsT w e
theorem dH.hpq{n b:Nat}{a:Nd}{l q:Tr}(h:w'.heap=w.heap)(ho:dH n w b a l q):dH n w' b a l q:=by
 have at_:∀ {t:TypeId} {Q:Array Value->Prop},At w b t Q->At w' b t Q:=fun⟨cs,hc,hq⟩=>⟨cs,by rw[h];exact hc,hq⟩
 match n,ho with
 |0,h|1,h|2,h|3,h|4,h|5,h|6,h|7,h|8,h|9,h|10,h|11,h|12,h|13,h|14,h|16,h|17,h=>exact at_ h
 |20,h=>exact⟨h.1,at_ h.2⟩
 |15,_|18,_|19,_=>trivial
 |n+21,_=>trivial
theorem IsT.hpq(h:w'.heap=w.heap):∀ {t:Tr},IsT w t->IsT w' t:=by
 intro t
 induction t with
 |nil=>intro _;trivial
 |node b o a l q ihl ihr=>intro k;exact⟨ihl k.1,ihr k.2.1,dH.hpq h k.2.2⟩
theorem PgX.wx(h:PgX pb al fl w)(hr:RnW B pb rb r w)(hx:Wx B rb w w'):PgX pb al fl w':=by
 obtain⟨it,vA,vF,m,vS,H,hp,hA,hF⟩:=h.prog;obtain⟨c2,_,h0,_⟩:=hr.ex;refine⟨⟨it,vA,vF,m,vS,H,hx.block _ _ _ hp (bEF hp h0 Ob) Ob,aN0 hA hr hx Ob Ob,⟨aN0 hF.row hr hx Ob Ob,fun e he=>?_⟩⟩,fun e he=>?_,h.few,fun e he=>IsT.wx hr hx (h.fns e he)⟩
 ·obtain⟨b,o,a,l,x,y,z,p,q,e1,e2,e3⟩:=hF.own e he;exact⟨b,o,a,l,x,y,z,p,q,e1,At.wx e2 hr hx Ob Ob,e3⟩
 ·obtain⟨b,o,a,l,q,e1,e2,e3⟩:=h.arr e he;exact⟨b,o,a,l,q,e1,At.wx e2 hr hx Ob Ob,e3⟩
theorem PgX.drewN(h:PgX pb al fl w)(n:Nat):PgX pb al fl (w.drewN n):=by
 obtain⟨it,vA,vF,m,vS,H,hp,hA,hF⟩:=h.prog;exact⟨⟨it,vA,vF,m,vS,H,hp,hA,⟨hF.row,hF.own⟩⟩,h.arr,h.few,fun e he=>IsT.hpq (w:=w) (w':=w.drewN n) rfl (h.fns e he)⟩
theorem PgX.drew(h:PgX pb al fl w):PgX pb al fl w.drew:=by
 obtain⟨it,vA,vF,m,vS,H,hp,hA,hF⟩:=h.prog;exact⟨⟨it,vA,vF,m,vS,H,hp,hA,⟨hF.row,hF.own⟩⟩,h.arr,h.few,fun e he=>IsT.hpq (w:=w) (w':=w.drew) rfl (h.fns e he)⟩
theorem PgX.at(h:PgX pb al fl w){k:Nat}(hk:k < al.length):∃ g cp b,w.cell? ⟨pb,1,none⟩=some (.slice (some ⟨g,0,none⟩) al.length cp)/\w.cell? ⟨g,k,none⟩=some (.pointer (some ⟨b,0,none⟩))/\w.cell? ⟨b,3,none⟩=some (.int .i64 (bCG al k))/\1<=bCG al k/\bCG al k<=64:=by
 obtain⟨it,vA,vF,m,vS,H,hp,hA,hF⟩:=h.prog;obtain⟨b,o,a,l,q,e1,⟨cs,h2,h3⟩,hv⟩:=h.arr al[k] (List.getElem_mem hk)
 obtain⟨g,cp,h1⟩:∃ g cp,vA= .slice (some ⟨g,0,none⟩) al.length cp:=by
  obtain⟨ao,cp,e1,e2⟩:=eQ hA;rcases e2 with e2|⟨g,e2⟩
  ·omega
  ·exact⟨g,cp,by rw[e1,e2]⟩
 rw[h1]at hA hp;have h0:=hA.cellAt k Oa;have hl:bCG al k=a.val:=by unfold bCG;rw[List.getElem?_eq_getElem hk,e1]
 refine⟨g,cp,b,Og hp rfl,?_,by rw[cell_of_row _ _ _ _ _ _ h2,hl];exact h3,by rw[hl];exact hv.1,by rw[hl];exact hv.2⟩;rw[h0,List.getElem?_map,List.getElem?_eq_getElem hk,e1];rfl
theorem pP(w:World)(h:RnW B pb rb r w)(hf:FmW rb fb vars value w)(hp:PgX pb al fl w)(x:ByteArray)(np:Int)(k:Nat)(hk:k < al.length)(i s:Int):
 Calls Tryz.prog 304 #[.pointer (some ⟨fb,0,none⟩),.agg #[.string x,.int .i64 np,.int .i64 k],.int .i64 i,.int .i64 s] w fun e w'=>e= .returned (.bool (fI (bCG al) k i))/\RnW B pb rb (if fI (bCG al) k i then r else r.trap s) w'/\Wx B rb w w':=by
 obtain⟨g,cp,b,q1,q2,q3,q4,q5⟩:=hp.at hk;obtain⟨f0,_,_,_⟩:=hf.cells;obtain⟨r0,_,_,_,_,_⟩:=h.cells;have hkI:0<=(k:Int)/\(k:Int) < (al.length:Int):=Oa
 have h0:∀ b,fI (bCG al) (k:Int) i=b↔(decide (0<=i)&&decide (i < bCG al k))=b:=by intro b;unfold fI;simp
 generalize bCG al k=n at*;obtain⟨o,ho⟩:∃ o:Obj,o= .cells #[.string x,.int .i64 np,.int .i64 k] 100:=⟨_,rfl⟩
 have kp:∀ {p:Addr} {v:Value},w.cell? p=some v->(w.alloc o).cell? p=some v:=fun {p v} hc=>by
  have hl:=Qg w _ hc;exact(Qf (On hl)).trans hc
 have u1:=kp q1;have u2:=kp q2;have u3:=kp q3;have u4:=kp f0;have u5:=kp r0
 have u6:(w.alloc o).cell? ⟨w.heap.size,2,none⟩=some (.int .i64 k):=by
  have:=Qb w o;rw[ho]at this ⊢;rw[cell_of_row _ _ _ _ _ _ this];rfl
 have XA:Wx B rb w (w.alloc o):=(Wx.refl _ _ _).alloc o
 have RA:RnW B pb rb r (w.alloc o):=by
  obtain⟨cs,vO,hc,h1,h2⟩:=h.ex
  exact⟨⟨cs,vO,(On (Oo hc)).trans hc,h1,cD h2 (fun k hk=>by
   obtain⟨⟨c,h6⟩,_⟩:=bEH h2 hk;exact On (Oo h6))⟩,h.ge,h.few⟩
 have h3:Hid _:=XA;have h5:Hid (RnW B pb rb r (w.alloc o)):=RA;clear q1 q2 q3 f0 r0 kp hp hf h XA RA
 by_cases h1:0<=i
 ·have t1:decide (0<=i)=true:=by simp[h1]
  by_cases h2:i < n
  ·have t2:decide (i < n)=true:=by simp[h2]
   have hb:fI (bCG al) (k:Int) i=true:=(h0 true).2 (by simp[h1,h2]);rw[hb,if_pos rfl];clear h0 hb;go_enter Tryz.func304,Tryz.ntmps304
   go_wp2_with fail
   rw[<-ho];clear ho;generalize w.alloc o=W1 at*;go_quiet (fail)
   go_wp2;go_ret;exact⟨rfl,h5.out.drewN _,h3.out.drewN _⟩
  ·have t2:decide (i < n)=false:=by simp[h2]
   have hb:fI (bCG al) (k:Int) i=false:=(h0 false).2 (by simp[h2]);rw[hb,if_neg Ob];clear h0 hb;go_enter Tryz.func304,Tryz.ntmps304
   go_wp2_with fail
   rw[<-ho];clear ho;generalize w.alloc o=W1 at*;go_quiet (fail)
   go_wp2_with fail
   refine(qQ s _ (h5.out.drewN _)).mono ?_;rintro e W2 ⟨rfl,h2,x2⟩;have HH:Hid _:=h2;have h4:Hid _:=x2;clear h2 x2;go_wp2;go_ret;exact⟨rfl,HH.out,(h3.out.drewN _).trans h4.out⟩
 ·have t1:decide (0<=i)=false:=by simp[h1]
  have hb:fI (bCG al) (k:Int) i=false:=(h0 false).2 (by simp[h1]);rw[hb,if_neg Ob];clear h0 hb;go_enter Tryz.func304,Tryz.ntmps304
  go_wp2_with fail
  rw[<-ho];clear ho;generalize w.alloc o=W1 at*;go_quiet (fail)
  go_wp2_with fail
  refine(qQ s _ (h5.out.drewN _)).mono ?_;rintro e W2 ⟨rfl,h2,x2⟩;have HH:Hid _:=h2;have h4:Hid _:=x2;clear h2 x2;go_wp2;go_ret;exact⟨rfl,HH.out,(h3.out.drewN _).trans h4.out⟩
end
section
open Go.RowKit Go.Lib Go.Deep Go.ChangeMaps Go.MapKept
structure Mn(r r':Rn):Prop where
 fuel:r'.fuel<=r.fuel
 calls:r'.calls=r.calls
 outs:r'.outs.length+r'.fuel<=r.outs.length+r.fuel
theorem Mn.refl(r:Rn):Mn r r:=⟨Qc _,rfl,Qc _⟩
theorem Mn.trans{a b c:Rn}(h:Mn a b)(k:Mn b c):Mn a c:=⟨Qd k.fuel h.fuel,k.calls.trans h.calls,Qd k.outs h.outs⟩
theorem Mn.stop(r:Rn)(e:Int):Mn r (r.stop e):=by unfold Rn.stop;split<;>exact⟨Qc _,rfl,Qc _⟩
theorem Mn.trap(r:Rn)(e:Int):Mn r (r.trap e):=by unfold Rn.trap;split<;>exact⟨Qc _,rfl,Qc _⟩
theorem Mn.burn(r:Rn):Mn r r.burn:=by
 unfold Rn.burn
 split
 ·exact Mn.stop _ _
 ·split
  ·exact⟨by show r.fuel - 1<=r.fuel;omega,rfl,by show r.outs.length+(r.fuel - 1)<=_;omega⟩
  ·exact Mn.refl _
def COk(C:Cl):Prop:=∀ k l s r,Mn r (C k l s r).2
variable {lens:Nat->Int} {C:Cl} {vars:Nat->Int}
theorem lQ(hC:COk C):∀ (t:Tr) (r:Rn),Mn r (exW lens C vars t r).2:=by
 intro t
 induction t with
 |nil=>intro r;exact Mn.refl _
 |node b o a l q ihl ihq=>
  intro r;have h1:=ihl r;have h2:=ihq (exW lens C vars l r).2;unfold exW
  split
  ·exact Mn.refl _
  split
  ·exact Mn.refl _
  split
  ·split
   ·exact h1
   ·exact h1.trans (Mn.trap _ _)
  split
  ·exact h1.trans (hC _ _ _ _)
  split
  ·exact h1
  split
  ·exact h1
  split
  ·split
   ·exact(h1.trans h2).trans (Mn.trap _ _)
   ·exact h1.trans h2
  split
  ·exact h1.trans h2
  ·exact Mn.refl _
theorem zZ(hC:COk C):∀ (t:Tr) (r:Rn),Mn r (cdW lens C vars t r).2:=by
 intro t
 induction t with
 |nil=>intro r;exact Mn.refl _
 |node b o a l q ihl ihq=>
  intro r;have h1:=ihl r;have h2:=ihq (cdW lens C vars l r).2;unfold cdW
  split
  ·exact(lQ hC l r).trans (lQ hC q _)
  split
  ·split
   ·exact h1.trans h2
   ·exact h1
  ·split
   ·exact h1
   ·exact h1.trans h2
structure Bd(d:Nat)(r:Rn):Prop where
 calls:r.calls<=60
 outs:r.outs.length+r.fuel<=20000
 fuel:r.fuel<=d
theorem Bd.mn{d:Nat}{r r':Rn}(h:Bd d r)(k:Mn r r'):Bd d r':=⟨by rw[k.calls];exact h.calls,Qd k.outs h.outs,Qd k.fuel h.fuel⟩
variable {B pb rb fb d:Nat} {r:Rn} {w w' u:World} {value:Int} {al fl:List Tr}
structure XW(B pb rb fb d:Nat)(al fl:List Tr)(vars:Nat->Int)(value:Int)(r:Rn)(w:World):Prop where
 rn:RnW B pb rb r w
 fm:FmW rb fb vars value w
 pg:PgX pb al fl w
 bd:Bd d r
theorem XW.wx(h:XW B pb rb fb d al fl vars value r w){r':Rn}(hr:RnW B pb rb r' w')(hx:Wx B rb w w')(hm:Mn r r'):XW B pb rb fb d al fl vars value r' w':=
 ⟨hr,h.fm.wx hx (h.fm.ne h.rn),h.pg.wx h.rn hx,h.bd.mn hm⟩
def aBK(B pb rb:Nat)(v:Int)(r':Rn)(w:World):Ending->World->Prop:=fun e w'=>e= .returned (.int .i64 v)/\RnW B pb rb r' w'/\Wx B rb w w'
def GX(f B pb d:Nat)(C:Cl)(al fl:List Tr)(val:Tr->Value)(t:Tr):Prop:=
 ∀ rb fb vars value r w,XW B pb rb fb d al fl vars value r w->IsT w t->Calls Tryz.prog f #[.pointer (some ⟨fb,0,none⟩),val t] w (aBK B pb rb (hd (exW (bCG al) C vars t r).1) (exW (bCG al) C vars t r).2 w)
end
section
open Go.RowKit Go.Lib Go.Deep Go.ChangeMaps Go.MapKept
variable {lens:Nat->Int} {C:Cl} {vars:Nat->Int} {B pb rb fb d:Nat} {r:Rn} {w w' u:World} {value:Int} {al fl:List Tr}
theorem aKK{b o:Nat}{a:Nd}{l:Tr}(ht:a.tag=2)(hC:COk C)(hk:0<=a.which/\a.which < al.length)(hl:Ws 0 l/\GX 200 B pb d C al fl bCH l):GX 253 B pb d C al fl cB (.node b o a l .nil):=by
 intro rb fb vars value r w h hi;obtain⟨k,h6⟩:∃ k:Nat,a.which=k:=⟨a.which.toNat,Oa⟩;have h7:k < al.length:=Oa
 obtain⟨k5,k4⟩:=hl;obtain⟨u,p,k6⟩:=k5.val Ox
 have cellsO:∀ W:World,Own W b a l .nil->W.cell? ⟨b,0,none⟩=some (.string a.name)/\W.cell? ⟨b,1,none⟩=some (.int .i64 a.npos)/\W.cell? ⟨b,2,none⟩=some (.int .i64 (k:Int))/\W.cell? ⟨b,3,none⟩=some (bCH l)/\W.cell? ⟨b,4,none⟩=some (.int .i64 a.site):=fun W ho=>by
  obtain⟨cs,hc,hn,h3,h4⟩:=aI ho (n:=2) ht;have k7:cs[2]?=some (.int .i64 (k:Int)):=by rw[<-h6];exact hn.2.2
  exact⟨Og hc hn.1,Og hc hn.2.1,Og hc k7,Og hc h3,Og hc h4⟩
 have h0:=k4 rb fb vars value r w h hi.1;obtain⟨_,_,_,m3,_⟩:=cellsO w hi.2.2;rw[k6]at m3 h0;have k3:=lQ (lens:=bCG al) (vars:=vars) hC l r
 have hX:exW (bCG al) C vars (.node b o a l .nil) r=(if fI (bCG al) k (hd (exW (bCG al) C vars l r).1)then([(exW (bCG al) C vars l r).2.arr (gH k (hd (exW (bCG al) C vars l r).1))],(exW (bCG al) C vars l r).2)else([0],(exW (bCG al) C vars l r).2.trap a.site)):=by
  show(if a.tag=0 then _ else _)=_;rw[Oh,Oh,if_pos ht,h6]
 rw[hX];have HO:Hid _:=cellsO;have HI:Hid (IsT w (.node b o a l .nil)):=hi;have HH:Hid (XW B pb rb fb d al fl vars value r w):=h;show Calls Tryz.prog 253 #[.pointer (some ⟨fb,0,none⟩),.pointer (some ⟨b,0,none⟩)] w _;generalize exW (bCG al) C vars l r=y at*;obtain⟨yl,r2⟩:=y;dsimp only at*;generalize hd yl=i at*;clear hX cellsO hi h k4 hk;have hkI:0<=(k:Int)/\(k:Int) < (al.length:Int):=Oa
 clear h6;cases hin:fI (bCG al) (k:Int) i
 ·rw[if_neg Ob];go_enter Tryz.func253,Tryz.ntmps253
  go_wp2_with fail
  refine h0.mono ?_;rintro e W2 ⟨rfl,h2,x2⟩;have X2:=HH.out.wx h2 x2 k3;have o2:=dH.wx HH.out.rn x2 HI.out.2.2;obtain⟨n0,n1,n2,_,n4⟩:=HO.out W2 o2;have h5:=pP W2.drew h2.drew (show FmW rb fb vars value W2.drew from X2.fm) X2.pg.drew a.name a.npos k h7 i a.site;rw[hin]at h5;have h1:Hid _:=X2;have h9:Hid _:=x2;have k1:Hid (Own W2 b a l .nil):=o2;clear X2 x2 o2 h2 h0 m3 hin;go_wp2_with fail
  go_region_held3 (fun w'=>w'.cell? ⟨b,0,none⟩=some (.string a.name)/\w'.cell? ⟨b,1,none⟩=some (.int .i64 a.npos)/\w'.cell? ⟨b,2,none⟩=some (.int .i64 k)/\w'.cell? ⟨b,4,none⟩=some (.int .i64 a.site))
   (first
     |(refine⟨?_,?_,?_,?_⟩<;>assumption)
     |go_keep)
   ((refine eC rfl 304 #[.pointer (some ⟨fb,0,none⟩),.agg #[.string a.name,.int .i64 a.npos,.int .i64 k],.int .i64 i,.int .i64 a.site] _ (by go_simp) h5 ?_;rintro e W3 ⟨rfl,h3,x3⟩;refine⟨_,rfl,?_⟩;have o3:Own W3 b a l .nil:=dH.wx (w:=W2.drew) h1.out.rn.drew x3 k1.out;obtain⟨p0,p1,p2,_,p4⟩:=HO.out W3 o3))
  have k2:Hid _:=h3;have k0:Hid _:=x3;clear h3 x3;go_wp2;go_ret;exact⟨rfl,k2.out,h9.out.drew.trans k0.out⟩
 ·rw[if_pos rfl];obtain⟨g9,cp9,b9,_,_,_,l1,l2⟩:=HH.out.pg.at h7
  have hb:0<=i/\i < 64:=by
   unfold fI at hin;simp only[Bool.and_eq_true,decide_eq_true_eq,Int.toNat_natCast]at hin;omega
  obtain⟨n,rfl⟩:∃ n:Nat,i=n:=⟨i.toNat,Oa⟩;have hnI:0<=(n:Int)/\(n:Int) < 64:=hb;have hkJ:0<=(k:Int)/\(k:Int) < 6:=by have:=HH.out.pg.few;omega
  have hn64:n < 64:=Oa
  have hk6:k < 6:=Oa
  clear hb;go_enter Tryz.func253,Tryz.ntmps253
  go_wp2_with fail
  refine h0.mono ?_;rintro e W2 ⟨rfl,h2,x2⟩;have X2:=HH.out.wx h2 x2 k3;have o2:=dH.wx HH.out.rn x2 HI.out.2.2;obtain⟨n0,n1,n2,_,n4⟩:=HO.out W2 o2;have h5:=pP W2.drew h2.drew (show FmW rb fb vars value W2.drew from X2.fm) X2.pg.drew a.name a.npos k h7 n a.site;rw[hin]at h5;have h1:Hid _:=X2;have h9:Hid _:=x2;have k1:Hid (Own W2 b a l .nil):=o2;clear X2 x2 o2 h2 h0 m3 hin;go_wp2_with fail
  go_region_held3 (fun w'=>w'.cell? ⟨b,0,none⟩=some (.string a.name)/\w'.cell? ⟨b,1,none⟩=some (.int .i64 a.npos)/\w'.cell? ⟨b,2,none⟩=some (.int .i64 k)/\w'.cell? ⟨b,4,none⟩=some (.int .i64 a.site))
   (first
     |(refine⟨?_,?_,?_,?_⟩<;>assumption)
     |go_keep)
   ((refine eC rfl 304 #[.pointer (some ⟨fb,0,none⟩),.agg #[.string a.name,.int .i64 a.npos,.int .i64 k],.int .i64 n,.int .i64 a.site] _ (by go_simp) h5 ?_;rintro e W3 ⟨rfl,h3,x3⟩;refine⟨_,rfl,?_⟩;have o3:Own W3 b a l .nil:=dH.wx (w:=W2.drew) h1.out.rn.drew x3 k1.out;obtain⟨p0,p1,p2,_,p4⟩:=HO.out W3 o3))
  have h8:RnW B pb rb r2 W3:=h3;have hm3:Mn r2 r2:=Mn.refl _;have f3:=((show FmW rb fb vars value W2.drew from h1.out.fm).wx x3 (h1.out.fm.ne h1.out.rn)).cells.1;have a3:=h8.arrAt (i:=gH k n) (by unfold gH;simp only[Int.toNat_natCast];omega)
  have a4:W3.cell? ⟨rb,1+k*64+n,none⟩=some (.int .i64 (r2.arr (gH k n))):=by
   rw[show 1+k*64+n=gH k n+1 by unfold gH;simp only[Int.toNat_natCast];omega];exact a3
  have k2:Hid _:=h8;have k0:Hid _:=x3;clear h3 x3 h8 a3;generalize r2.arr (gH k n)=V at*;go_wp2_with fail
  go_quiet (fail)
  go_wp2;go_ret;exact⟨rfl,k2.out.drewN _,(h9.out.drew.trans k0.out).drewN _⟩
end
section
open Go.RowKit Go.Lib Go.Deep Go.ChangeMaps Go.MapKept
variable {lens:Nat->Int} {C:Cl} {vars:Nat->Int} {B pb rb fb d:Nat} {r:Rn} {w w' u:World} {value:Int} {al fl:List Tr}
theorem uI{b:Nat}{w:World}{a:Nd}{l q:Tr}(ho:Own w b a l q)(h:a.tag=6):w.cell? ⟨b,4,none⟩=some (.int .i64 a.site):=by
 obtain⟨cs,hc,_,_,_,_,h4⟩:=aI ho (n:=6) h;rw[cell_of_row _ _ _ _ _ _ hc];exact h4
theorem aR0{b o:Nat}{a:Nd}{l q:Tr}(ht:a.tag=6):exW lens C vars (.node b o a l q) r=(if 30<=a.op/\hd (exW lens C vars q (exW lens C vars l r).2).1=0 then([0],(exW lens C vars q (exW lens C vars l r).2).2.trap a.site)
 else([rJ a.op (hd (exW lens C vars l r).1) (hd (exW lens C vars q (exW lens C vars l r).2).1)],(exW lens C vars q (exW lens C vars l r).2).2)):=by
 show(if a.tag=0 then _ else _)=_;rw[Oh,Oh,Oh,Oh,Oh,Oh,if_pos ht]
theorem aOT{b o:Nat}{a:Nd}{l q:Tr}(ht:a.tag=6)(y3:27<=a.op/\a.op<=31)(hC:COk C)(hl:Ws 0 l/\GX 200 B pb d C al fl bCH l)(hq:Ws 0 q/\GX 200 B pb d C al fl bCH q):GX 255 B pb d C al fl cB (.node b o a l q):=by
 intro rb fb vars value r w h hi;obtain⟨y1,k7⟩:=hl;obtain⟨y0,k6⟩:=hq;obtain⟨u,p,y2⟩:=y1.val Ox;obtain⟨u2,p2,k5⟩:=y0.val Ox;have h6:=k7 rb fb vars value r w h hi.1;obtain⟨_,_,m2,_⟩:=oG hi.2.2 ht;rw[y2]at m2 h6;have y4:=lQ (lens:=bCG al) (vars:=vars) hC l r;rw[aR0 ht];have HH:Hid (XW B pb rb fb d al fl vars value r w):=h;have HI:Hid (IsT w (.node b o a l q)):=hi;have HT:Hid (a.tag=6):=ht;show Calls Tryz.prog 255 #[.pointer (some ⟨fb,0,none⟩),.pointer (some ⟨b,0,none⟩)] w _;have k2:=lQ (lens:=bCG al) (vars:=vars) hC q (exW (bCG al) C vars l r).2
 have y7:Hid (∀ w2,XW B pb rb fb d al fl vars value (exW (bCG al) C vars l r).2 w2->IsT w2 q->Calls Tryz.prog 200 #[.pointer (some ⟨fb,0,none⟩),.iface u2 (.pointer (some p2))] w2 (aBK B pb rb (hd (exW (bCG al) C vars q (exW (bCG al) C vars l r).2).1) (exW (bCG al) C vars q (exW (bCG al) C vars l r).2).2 w2)):=fun w2 h2 i2=>by
  have:=k6 rb fb vars value _ w2 h2 i2;rw[k5]at this;exact this
 clear k7 k6 h hi;generalize exW (bCG al) C vars q (exW (bCG al) C vars l r).2=y at*;generalize exW (bCG al) C vars l r=x at*;obtain⟨xl,r2⟩:=x;obtain⟨yl,r3⟩:=y;dsimp only at*;generalize hd xl=A at*;generalize hd yl=D at*;generalize h1:a.op=op at*;obtain⟨Z,hZ⟩:∃ Z:List Int × Rn,Z=(if 30<=op/\D=0 then([0],r3.trap a.site)else([rJ op A D],r3)):=⟨_,rfl⟩;rw[<-hZ];have HZ:Hid _:=hZ;clear hZ;go_enter Tryz.func255,Tryz.ntmps255
 go_wp2_with fail
 refine h6.mono ?_;rintro e W2 ⟨rfl,h2,x2⟩;have X2:=HH.out.wx h2 x2 y4;have i2:IsT W2 (.node b o a l q):=IsT.wx HH.out.rn x2 HI.out;obtain⟨_,_,_,n3⟩:=oG i2.2.2 HT.out;have h5:=y7.out W2 X2 i2.2.1;rw[k5]at n3;have k8:Hid _:=X2;have y5:Hid _:=x2;have y6:Hid (IsT W2 (.node b o a l q)):=i2;clear X2 x2 i2 h2 h6 m2;go_wp2_with fail
 refine h5.mono ?_;rintro e W3 ⟨rfl,h3,x3⟩;have X3:=k8.out.wx h3 x3 k2;have i3:IsT W3 (.node b o a l q):=IsT.wx k8.out.rn x3 y6.out;obtain⟨n0,_,_,_⟩:=oG i3.2.2 HT.out;rw[h1]at n0;have n4:=uI i3.2.2 HT.out;have f0:=X3.fm.cells.1;have h9:Hid _:=y5.out.trans x3;have k9:Hid (IsT W3 (.node b o a l q)):=i3;have k0:Hid (FmW rb fb vars value W3):=X3.fm;have h7:Hid (RnW B pb rb r3 W3):=h3;clear X3 x3 i3 h3 h5 n3;have h8:op=27\/op=28\/op=29\/op=30\/op=31:=Oa
 clear y3;rcases h8 with rfl|rfl|rfl|rfl|rfl
 ·obtain rfl:=HZ.out.trans (Oh);have h0:rJ 27 A D=w64 (A+D):=rfl;have HA:Hid _:=h0;clear h0 h1 n4 f0;go_wp2;go_ret;exact⟨by rw[HA.out];rfl,h7.out,h9.out⟩
 ·obtain rfl:=HZ.out.trans (Oh);have h0:rJ 28 A D=w64 (A - D):=rfl;have HA:Hid _:=h0;clear h0 h1 n4 f0;go_wp2;go_ret;exact⟨by rw[HA.out];rfl,h7.out,h9.out⟩
 ·obtain rfl:=HZ.out.trans (Oh);have h0:rJ 29 A D=w64 (A*D):=rfl;have HA:Hid _:=h0;clear h0 h1 n4 f0;go_wp2;go_ret;exact⟨by rw[HA.out];rfl,h7.out,h9.out⟩
 ·by_cases hz:D=0
  ·obtain rfl:=HZ.out.trans (if_pos ⟨Oa,hz⟩);have tz:(D==0)=true:=by simp[hz]
   clear hz;have k1:=qQ a.site W3.drew h7.out.drew;have HK:Hid (∀ W4,Wx B rb W3.drew W4->W4.cell? ⟨b,4,none⟩=some (.int .i64 a.site)/\W4.cell? ⟨fb,0,none⟩=some (.pointer (some ⟨rb,0,none⟩))):=fun W4 x4=>⟨uI (IsT.wx (w:=W3.drew) h7.out.drew x4 (IsT.next (w:=W3) (w':=W3.drew) (fun _ _=>rfl) k9.out)).2.2 HT.out,((show FmW rb fb vars value W3.drew from k0.out).wx x4 ((show FmW rb fb vars value W3.drew from k0.out).ne h7.out.drew)).cells.1⟩;clear h1;go_wp2_with fail
   go_region_held3 (fun w'=>w'.cell? ⟨b,4,none⟩=some (.int .i64 a.site)/\w'.cell? ⟨fb,0,none⟩=some (.pointer (some ⟨rb,0,none⟩)))
    (first
      |(refine⟨?_,?_⟩<;>assumption)
      |go_keep)
    ((refine eC rfl 305 #[.pointer (some ⟨rb,0,none⟩),.int .i64 a.site] _ (by go_simp) k1 ?_;rintro e W4 ⟨rfl,h4,x4⟩;refine⟨_,rfl,?_⟩;obtain⟨gg,hh⟩:=HK.out W4 x4))
   have k4:Hid _:=h4;have k3:Hid _:=x4;clear h4 x4;go_wp2;go_ret;exact⟨rfl,k4.out,h9.out.drew.trans k3.out⟩
  ·obtain rfl:=HZ.out.trans (if_neg (fun h=>hz h.2));have tz:(D==0)=false:=by simp[hz]
   have h0:rJ 30 A D=w64 (A.tdiv D):=rfl;have HA:Hid _:=h0;clear h0 h1 n4 f0;go_wp2;go_ret;exact⟨by rw[HA.out];rfl,h7.out,h9.out⟩
 ·by_cases hz:D=0
  ·obtain rfl:=HZ.out.trans (if_pos ⟨Oa,hz⟩);have tz:(D==0)=true:=by simp[hz]
   clear hz;have k1:=qQ a.site W3.drew h7.out.drew;have HK:Hid (∀ W4,Wx B rb W3.drew W4->W4.cell? ⟨b,4,none⟩=some (.int .i64 a.site)/\W4.cell? ⟨fb,0,none⟩=some (.pointer (some ⟨rb,0,none⟩))):=fun W4 x4=>⟨uI (IsT.wx (w:=W3.drew) h7.out.drew x4 (IsT.next (w:=W3) (w':=W3.drew) (fun _ _=>rfl) k9.out)).2.2 HT.out,((show FmW rb fb vars value W3.drew from k0.out).wx x4 ((show FmW rb fb vars value W3.drew from k0.out).ne h7.out.drew)).cells.1⟩;clear h1;go_wp2_with fail
   go_region_held3 (fun w'=>w'.cell? ⟨b,4,none⟩=some (.int .i64 a.site)/\w'.cell? ⟨fb,0,none⟩=some (.pointer (some ⟨rb,0,none⟩)))
    (first
      |(refine⟨?_,?_⟩<;>assumption)
      |go_keep)
    ((refine eC rfl 305 #[.pointer (some ⟨rb,0,none⟩),.int .i64 a.site] _ (by go_simp) k1 ?_;rintro e W4 ⟨rfl,h4,x4⟩;refine⟨_,rfl,?_⟩;obtain⟨gg,hh⟩:=HK.out W4 x4))
   have k4:Hid _:=h4;have k3:Hid _:=x4;clear h4 x4;go_wp2;go_ret;exact⟨rfl,k4.out,h9.out.drew.trans k3.out⟩
  ·obtain rfl:=HZ.out.trans (if_neg (fun h=>hz h.2));have tz:(D==0)=false:=by simp[hz]
   have h0:rJ 31 A D=A.tmod D:=rfl;have HA:Hid _:=h0;clear h0 h1 n4 f0;go_wp2;go_ret;exact⟨by rw[HA.out];rfl,h7.out,h9.out⟩
end
section
open Go.RowKit Go.Lib Go.Deep Go.ChangeMaps Go.MapKept
variable {lens:Nat->Int} {C:Cl} {vars:Nat->Int} {B pb rb fb d:Nat} {r:Rn} {w w' u:World} {value:Int} {al fl:List Tr}
theorem aAO(u:TypeId)(v:Value)(w:World):(Instr.typeAssert (.iface u v) 269 362 true).run Tryz.prog w= .ok (.tuple #[if u=362 then v else .pointer none,.bool (decide (u=362))]) w:=eY _ u v w Tryz.underlying362 (by kernel_rfl)
theorem aO1{b o:Nat}{a:Nd}{l q:Tr}(hw:Ws 0 (.node b o a l q))(hv:a.tag=1->0<=a.which/\a.which < 12)(hl:a.tag=4\/a.tag=5->Ws 0 l/\GX 200 B pb d C al fl bCH l)(h2:a.tag=2->GX 253 B pb d C al fl cB (.node b o a l q))(h3:a.tag=3->GX 254 B pb d C al fl cB (.node b o a l q))(h6:a.tag=6->GX 255 B pb d C al fl cB (.node b o a l q)):
 GX 200 B pb d C al fl bCH (.node b o a l q):=by
 intro rb fb vars value r w h hi;obtain⟨hoka,sx,sy,h7,h9,h8⟩:=hw.parts
 have ht:a.tag < 7:=by
  rcases Qk a.tag 7 with h|h
  ·exact h
  ·exfalso;unfold sig at h7;rw[if_pos rfl]at h7;rw[Oh,Oh,Oh,Oh,Oh]at h7;cases h7
 have h4:=hi.2.2;have k7:bCH (.node b o a l q)= .iface (bZ a.tag) (.pointer (some ⟨b,0,none⟩)):=Oh;rw[k7];clear k7 h7;have t0:=fun u v=>aAO u v w;have t1:=fun u v=>oD u v w;have t2:=fun u v=>pT u v w;have t3:=fun u v=>xL u v w;have t4:=fun u v=>mX u v w;have t5:=fun u v=>rP u v w;have t6:=fun u v=>rQ u v w
 by_cases k0:a.tag=0
 ·have hX:exW (bCG al) C vars (.node b o a l q) r=([a.val],r):=if_pos k0
  have m0:w.cell? ⟨b,0,none⟩=some (.int .i64 a.val):=by
   obtain⟨cs,hc,h0⟩:=aI h4 (n:=0) k0;rw[cell_of_row _ _ _ _ _ _ hc];exact h0
  rw[hX,show bZ a.tag=362 by rw[k0];rfl];have HR:Hid (RnW B pb rb r w):=h.rn;clear hv hl h2 h3 h6 hX h4 hi hw h9 h8 h k0 ht;go_enter Tryz.func200,Tryz.ntmps200
  go_wp2;go_ret;exact⟨rfl,HR.out,Wx.refl _ _ _⟩
 by_cases k1:a.tag=1
 ·have hX:exW (bCG al) C vars (.node b o a l q) r=([vars a.which.toNat],r):=(if_neg k0).trans (if_pos k1);obtain⟨y2,y1⟩:=hv k1;obtain⟨j,hj⟩:∃ j:Nat,a.which=j:=⟨a.which.toNat,Oa⟩
  have m0:w.cell? ⟨b,2,none⟩=some (.int .i64 (j:Int)):=by
   obtain⟨cs,hc,hn⟩:=aI h4 (n:=1) k1;rw[cell_of_row _ _ _ _ _ _ hc,<-hj];exact hn.2.2
  have mv:w.cell? ⟨fb,1+j,none⟩=some (.int .i64 (vars j)):=by
   rw[Nat.add_comm];exact h.fm.cells.2.2.1 j Oa
  have hjI:0<=(j:Int)/\(j:Int) < 12:=Oa
  rw[hX,hj,Int.toNat_natCast,show bZ a.tag=359 by rw[k1];rfl];generalize vars j=V at*;have HR:Hid (RnW B pb rb r w):=h.rn;clear hv hl h2 h3 h6 hX h4 hi hw h9 h8 h k0 k1 ht y2 y1 hj;go_enter Tryz.func200,Tryz.ntmps200
  go_wp2_with fail
  go_quiet (fail)
  go_wp2;go_ret;exact⟨rfl,HR.out.drewN _,(Wx.refl _ _ _).drewN _⟩
 by_cases k2:a.tag=2
 ·have h1:=h2 k2 rb fb vars value r w h hi;have h5:Calls Tryz.prog 253 #[.pointer (some ⟨fb,0,none⟩),.pointer (some ⟨b,0,none⟩)] w _:=h1;rw[show bZ a.tag=393 by rw[k2];rfl];generalize exW (bCG al) C vars (.node b o a l q) r=y at*;clear hv hl h2 h3 h6 h4 hi hw h9 h8 h k0 k1 k2 ht h1;go_enter Tryz.func200,Tryz.ntmps200
  go_wp2_with fail
  refine h5.mono ?_;rintro e W2 ⟨rfl,g2,x2⟩;have HG:Hid _:=g2;have HX:Hid _:=x2;clear g2 x2;go_wp2;go_ret;exact⟨rfl,HG.out,HX.out⟩
 by_cases k3:a.tag=3
 ·have h1:=h3 k3 rb fb vars value r w h hi;have h5:Calls Tryz.prog 254 #[.pointer (some ⟨fb,0,none⟩),.pointer (some ⟨b,0,none⟩)] w _:=h1;rw[show bZ a.tag=396 by rw[k3];rfl];generalize exW (bCG al) C vars (.node b o a l q) r=y at*;clear hv hl h2 h3 h6 h4 hi hw h9 h8 h k0 k1 k2 k3 ht h1;go_enter Tryz.func200,Tryz.ntmps200
  go_wp2_with fail
  refine h5.mono ?_;rintro e W2 ⟨rfl,g2,x2⟩;have HG:Hid _:=g2;have HX:Hid _:=x2;clear g2 x2;go_wp2;go_ret;exact⟨rfl,HG.out,HX.out⟩
 by_cases k6:a.tag=6
 ·have h1:=h6 k6 rb fb vars value r w h hi;have h5:Calls Tryz.prog 255 #[.pointer (some ⟨fb,0,none⟩),.pointer (some ⟨b,0,none⟩)] w _:=h1;rw[show bZ a.tag=403 by rw[k6];rfl];generalize exW (bCG al) C vars (.node b o a l q) r=y at*;clear hv hl h2 h3 h6 h4 hi hw h9 h8 h k0 k1 k2 k3 k6 ht h1;go_enter Tryz.func200,Tryz.ntmps200
  go_wp2_with fail
  refine h5.mono ?_;rintro e W2 ⟨rfl,g2,x2⟩;have HG:Hid _:=g2;have HX:Hid _:=x2;clear g2 x2;go_wp2;go_ret;exact⟨rfl,HG.out,HX.out⟩
 have k45:a.tag=4\/a.tag=5:=Oa
 obtain⟨k8,k9⟩:=hl k45;obtain⟨u,p,y0⟩:=k8.val Ox
 have m3:w.cell? ⟨b,0,none⟩=some (bCH l):=by
  rcases k45 with k4|k4
  ·obtain⟨cs,hc,h3⟩:=aI h4 (n:=4) k4;rw[cell_of_row _ _ _ _ _ _ hc];exact h3
  ·obtain⟨cs,hc,h3⟩:=aI h4 (n:=5) k4;rw[cell_of_row _ _ _ _ _ _ hc];exact h3
 have h1:=k9 rb fb vars value r w h hi.1;rw[y0]at m3 h1;rcases k45 with k4|k5
 ·have hX:exW (bCG al) C vars (.node b o a l q) r=exW (bCG al) C vars l r:=by
   show(if a.tag=0 then _ else _)=_;rw[Oh,Oh,Oh,Oh,if_pos (.inl k4)]
  rw[hX,show bZ a.tag=398 by rw[k4];rfl];generalize exW (bCG al) C vars l r=y at*;clear hv hl h2 h3 h6 h4 hi hw h9 h8 h k0 k1 k2 k3 k4 k6 ht hX k9;go_enter Tryz.func200,Tryz.ntmps200
  go_wp2_with fail
  refine h1.mono ?_;rintro e W2 ⟨rfl,g2,x2⟩;have HG:Hid _:=g2;have HX:Hid _:=x2;clear g2 x2;go_wp2;go_ret;exact⟨rfl,HG.out,HX.out⟩
 ·have hX:exW (bCG al) C vars (.node b o a l q) r=([w64 (-hd (exW (bCG al) C vars l r).1)],(exW (bCG al) C vars l r).2):=by
   show(if a.tag=0 then _ else _)=_;rw[Oh,Oh,Oh,Oh,Oh,if_pos k5]
  rw[hX,show bZ a.tag=401 by rw[k5];rfl];generalize exW (bCG al) C vars l r=y at*;clear hv hl h2 h3 h6 h4 hi hw h9 h8 h k0 k1 k2 k3 k5 k6 ht hX k9;go_enter Tryz.func200,Tryz.ntmps200
  go_wp2_with fail
  refine h1.mono ?_;rintro e W2 ⟨rfl,g2,x2⟩;have HG:Hid _:=g2;have HX:Hid _:=x2;clear g2 x2;go_wp2;go_ret;exact⟨rfl,HG.out,HX.out⟩
end
section
open Go.RowKit Go.Lib Go.Deep Go.ChangeMaps Go.MapKept
variable {lens:Nat->Int} {C:Cl} {vars:Nat->Int} {B pb rb fb d:Nat} {r:Rn} {w w' u:World} {value:Int} {al fl:List Tr}
def aIC(B pb rb:Nat)(v:Bool)(r':Rn)(w:World):Ending->World->Prop:=fun e w'=>e= .returned (.bool v)/\RnW B pb rb r' w'/\Wx B rb w w'
def GB(f B pb d:Nat)(C:Cl)(al fl:List Tr)(val:Tr->Value)(t:Tr):Prop:=
 ∀ rb fb vars value r w,XW B pb rb fb d al fl vars value r w->IsT w t->Calls Tryz.prog f #[.pointer (some ⟨fb,0,none⟩),val t] w (aIC B pb rb (cdW (bCG al) C vars t r).1 (cdW (bCG al) C vars t r).2 w)
theorem pW{b:Nat}{w:World}{a:Nd}{l r:Tr}(ho:Own w b a l r)(h:a.tag=7):w.cell? ⟨b,0,none⟩=some (.int .i64 a.op)/\w.cell? ⟨b,2,none⟩=some (bCH l)/\w.cell? ⟨b,3,none⟩=some (bCH r):=by
 obtain⟨cs,hc,h0,h1,h2,h3⟩:=aI ho (n:=7) h;exact⟨Og hc h0,Og hc h2,Og hc h3⟩
theorem aBE{b o:Nat}{a:Nd}{l q:Tr}(ht:a.tag=7)(k3:21<=a.op/\a.op<=26)(hC:COk C)(hl:Ws 0 l\/Ws 21 l)(k1:GX 200 B pb d C al fl bCH l)(hq:Ws 0 q\/Ws 21 q)(k0:GX 200 B pb d C al fl bCH q):GB 130 B pb d C al fl cB (.node b o a l q):=by
 intro rb fb vars value r w h hi;obtain⟨u,p,k2⟩:isV l:=hl.elim (fun h=>h.val Ox) (fun h=>h.val (.inr (.inr Oy)));obtain⟨u2,p2,h9⟩:isV q:=hq.elim (fun h=>h.val Ox) (fun h=>h.val (.inr (.inr Oy)));have h4:=k1 rb fb vars value r w h hi.1;obtain⟨_,m2,_⟩:=pW hi.2.2 ht;rw[k2]at m2 h4;have k4:=lQ (lens:=bCG al) (vars:=vars) hC l r;have hX:cdW (bCG al) C vars (.node b o a l q) r=(jV a.op (hd (exW (bCG al) C vars l r).1) (hd (exW (bCG al) C vars q (exW (bCG al) C vars l r).2).1),(exW (bCG al) C vars q (exW (bCG al) C vars l r).2).2):=if_pos ht;rw[hX];have HH:Hid (XW B pb rb fb d al fl vars value r w):=h;have HI:Hid (IsT w (.node b o a l q)):=hi;have HT:Hid (a.tag=7):=ht;show Calls Tryz.prog 130 #[.pointer (some ⟨fb,0,none⟩),.pointer (some ⟨b,0,none⟩)] w _
 have k8:Hid (∀ w2,XW B pb rb fb d al fl vars value (exW (bCG al) C vars l r).2 w2->IsT w2 q->Calls Tryz.prog 200 #[.pointer (some ⟨fb,0,none⟩),.iface u2 (.pointer (some p2))] w2 (aBK B pb rb (hd (exW (bCG al) C vars q (exW (bCG al) C vars l r).2).1) (exW (bCG al) C vars q (exW (bCG al) C vars l r).2).2 w2)):=fun w2 h2 i2=>by
  have:=k0 rb fb vars value _ w2 h2 i2;rw[h9]at this;exact this
 clear k1 k0 h hi hX hl hq;generalize exW (bCG al) C vars q (exW (bCG al) C vars l r).2=y at*;generalize exW (bCG al) C vars l r=x at*;obtain⟨xl,r2⟩:=x;obtain⟨yl,r3⟩:=y;dsimp only at*;generalize hd xl=A at*;generalize hd yl=D at*;generalize h0:a.op=op at*;go_enter Tryz.func130,Tryz.ntmps130
 go_wp2_with fail
 refine h4.mono ?_;rintro e W2 ⟨rfl,h2,x2⟩;have X2:=HH.out.wx h2 x2 k4;have i2:IsT W2 (.node b o a l q):=IsT.wx HH.out.rn x2 HI.out;obtain⟨_,_,n3⟩:=pW i2.2.2 HT.out;have h1:=k8.out W2 X2 i2.2.1;rw[h9]at n3;have k6:Hid _:=X2;have k5:Hid _:=x2;have k7:Hid (IsT W2 (.node b o a l q)):=i2;clear X2 x2 i2 h2 h4 m2;go_wp2_with fail
 refine h1.mono ?_;rintro e W3 ⟨rfl,h3,x3⟩;have i3:IsT W3 (.node b o a l q):=IsT.wx k6.out.rn x3 k7.out;obtain⟨n0,_,_⟩:=pW i3.2.2 HT.out;rw[h0]at n0;have h6:Hid _:=k5.out.trans x3;have h7:Hid (RnW B pb rb r3 W3):=h3;clear x3 i3 h3 h1 n3;have h5:op=21\/op=22\/op=23\/op=24\/op=25\/op=26:=Oa
 clear k3;rcases h5 with rfl|rfl|rfl|rfl|rfl|rfl
 ·have hh:jV 21 A D=decide (A=D):=rfl;have HA:Hid _:=hh;clear hh h0;go_wp2;go_ret;exact⟨bX (by rw[HA.out];by_cases h8:A=D<;>simp[h8]),h7.out,h6.out⟩
 ·have hh:jV 22 A D=decide (A≠D):=rfl;have HA:Hid _:=hh;clear hh h0;go_wp2;go_ret;exact⟨bX (by rw[HA.out];by_cases h8:A=D<;>simp[h8]),h7.out,h6.out⟩
 ·have hh:jV 23 A D=decide (A < D):=rfl;have HA:Hid _:=hh;clear hh h0;go_wp2;go_ret;exact⟨bX (by rw[HA.out]),h7.out,h6.out⟩
 ·have hh:jV 24 A D=decide (A<=D):=rfl;have HA:Hid _:=hh;clear hh h0;go_wp2;go_ret;exact⟨bX (by rw[HA.out]),h7.out,h6.out⟩
 ·have hh:jV 25 A D=decide (D < A):=rfl;have HA:Hid _:=hh;clear hh h0;go_wp2;go_ret;exact⟨bX (by rw[HA.out]),h7.out,h6.out⟩
 ·have hh:jV 26 A D=decide (D<=A):=rfl;have HA:Hid _:=hh;clear hh h0;go_wp2;go_ret;exact⟨bX (by rw[HA.out]),h7.out,h6.out⟩
end
section
open Go.RowKit Go.Lib Go.Deep Go.ChangeMaps Go.MapKept
variable {lens:Nat->Int} {C:Cl} {vars:Nat->Int} {B pb rb fb d:Nat} {r:Rn} {w w' u:World} {value:Int} {al fl:List Tr}
theorem aT7{b o:Nat}{a:Nd}{l q:Tr}(hw:Ws 1 (.node b o a l q))(hC:COk C)(h7:a.tag=7->GB 130 B pb d C al fl cB (.node b o a l q))(h8:a.tag=8->Ws 1 l/\Ws 1 q/\GB 257 B pb d C al fl bCH l/\GB 257 B pb d C al fl bCH q):GB 257 B pb d C al fl bCH (.node b o a l q):=by
 intro rb fb vars value r w h hi;obtain⟨h5,sx,sy,k0,k5,k4⟩:=hw.parts
 have ht:a.tag=7\/a.tag=8:=by
  by_cases h1:a.tag=7
  ·exact .inl h1
  by_cases h2:a.tag=8
  ·exact .inr h2
  ·exfalso;simp[sig,h1,h2]at k0
 have h9:bCH (.node b o a l q)= .iface (bZ a.tag) (.pointer (some ⟨b,0,none⟩)):=Oh;rw[h9];clear h9 k0;have t1:=fun u v=>pU u v w;have t2:=fun u v=>uF u v w;rcases ht with k7|k8
 ·have h0:=h7 k7 rb fb vars value r w h hi;have h6:Calls Tryz.prog 130 #[.pointer (some ⟨fb,0,none⟩),.pointer (some ⟨b,0,none⟩)] w _:=h0;rw[show bZ a.tag=253 by rw[k7];rfl];generalize cdW (bCG al) C vars (.node b o a l q) r=y at*;clear h7 h8 hi hw k5 k4 h k7 h0 h5;go_enter Tryz.func257,Tryz.ntmps257
  go_wp2_with fail
  refine h6.mono ?_;rintro e W2 ⟨rfl,g2,x2⟩;have HG:Hid _:=g2;have HX:Hid _:=x2;clear g2 x2;go_wp2;go_ret;exact⟨rfl,HG.out,HX.out⟩
 ·obtain⟨y4,y3,y0,k9⟩:=h8 k8;obtain⟨u,p,y5⟩:=y4.val Ow;obtain⟨u2,p2,k2⟩:=y3.val Ow
  have own8:∀ W,Own W b a l q->W.cell? ⟨b,0,none⟩=some (.int .i64 a.op)/\W.cell? ⟨b,1,none⟩=some (bCH l)/\W.cell? ⟨b,2,none⟩=some (bCH q):=fun W ho=>by
   obtain⟨cs,hc,h1,h2,h3⟩:=aI ho (n:=8) k8;exact⟨Og hc h1,Og hc h2,Og hc h3⟩
  obtain⟨n0,n1,_⟩:=own8 w hi.2.2;have y6:=h5.op8 k8;have h0:=y0 rb fb vars value r w h hi.1;rw[y5]at n1 h0;have k6:=zZ (lens:=bCG al) (vars:=vars) hC l r;have hX:cdW (bCG al) C vars (.node b o a l q) r=(if a.op=32 then(if(cdW (bCG al) C vars l r).1 then cdW (bCG al) C vars q (cdW (bCG al) C vars l r).2 else(false,(cdW (bCG al) C vars l r).2))else(if(cdW (bCG al) C vars l r).1 then(true,(cdW (bCG al) C vars l r).2)else cdW (bCG al) C vars q (cdW (bCG al) C vars l r).2)):=Oh;rw[hX,show bZ a.tag=407 by rw[k8];rfl];have HH:Hid (XW B pb rb fb d al fl vars value r w):=h;have HI:Hid (IsT w (.node b o a l q)):=hi;have y1:Hid _:=own8
  have y2:Hid (∀ w2,XW B pb rb fb d al fl vars value (cdW (bCG al) C vars l r).2 w2->IsT w2 q->Calls Tryz.prog 257 #[.pointer (some ⟨fb,0,none⟩),.iface u2 (.pointer (some p2))] w2 (aIC B pb rb (cdW (bCG al) C vars q (cdW (bCG al) C vars l r).2).1 (cdW (bCG al) C vars q (cdW (bCG al) C vars l r).2).2 w2)):=fun w2 h2 i2=>by
   have:=k9 rb fb vars value _ w2 h2 i2;rw[k2]at this;exact this
  clear y0 k9 h hi hX h7 h8 own8 h5 k5 k4 hw k8;generalize cdW (bCG al) C vars q (cdW (bCG al) C vars l r).2=y at*;generalize cdW (bCG al) C vars l r=x at*;obtain⟨A,r2⟩:=x;obtain⟨D,r3⟩:=y;dsimp only at*;generalize k1:a.op=op at*;have HOP:Hid _:=k1;clear k1;rcases y6 with rfl|rfl
  ·rw[if_pos rfl];cases A
   ·rw[if_neg Ob];go_enter Tryz.func257,Tryz.ntmps257
    go_wp2_with fail
    refine h0.mono ?_;rintro e W2 ⟨rfl,g2,x2⟩;have HG:Hid _:=g2;have HX:Hid _:=x2;clear g2 x2;go_wp2;go_ret;exact⟨rfl,HG.out,HX.out⟩
   ·rw[if_pos rfl];go_enter Tryz.func257,Tryz.ntmps257
    go_wp2_with fail
    refine h0.mono ?_;rintro e W2 ⟨rfl,g2,x2⟩;have X2:=HH.out.wx g2 x2 k6;have i2:IsT W2 (.node b o a l q):=IsT.wx HH.out.rn x2 HI.out;obtain⟨_,_,m2⟩:=y1.out W2 i2.2.2;rw[k2]at m2;have h4:=y2.out W2 X2 i2.2.1;have HX:Hid _:=x2;clear g2 x2 X2 i2 h0;go_wp2_with fail
    refine h4.mono ?_;rintro e W3 ⟨rfl,g3,x3⟩;have HG:Hid _:=g3;have k3:Hid _:=x3;clear g3 x3;go_wp2;go_ret;exact⟨rfl,HG.out,HX.out.trans k3.out⟩
  ·rw[if_neg Ob];cases A
   ·rw[if_neg Ob];go_enter Tryz.func257,Tryz.ntmps257
    go_wp2_with fail
    refine h0.mono ?_;rintro e W2 ⟨rfl,g2,x2⟩;have X2:=HH.out.wx g2 x2 k6;have i2:IsT W2 (.node b o a l q):=IsT.wx HH.out.rn x2 HI.out;obtain⟨_,_,m2⟩:=y1.out W2 i2.2.2;rw[k2]at m2;have h4:=y2.out W2 X2 i2.2.1;have HX:Hid _:=x2;clear g2 x2 X2 i2 h0;go_wp2_with fail
    refine h4.mono ?_;rintro e W3 ⟨rfl,g3,x3⟩;have HG:Hid _:=g3;have k3:Hid _:=x3;clear g3 x3;go_wp2;go_ret;exact⟨rfl,HG.out,HX.out.trans k3.out⟩
   ·rw[if_pos rfl];go_enter Tryz.func257,Tryz.ntmps257
    go_wp2_with fail
    refine h0.mono ?_;rintro e W2 ⟨rfl,g2,x2⟩;have HG:Hid _:=g2;have HX:Hid _:=x2;clear g2 x2;go_wp2;go_ret;exact⟨rfl,HG.out,HX.out⟩
end
section
open Go.RowKit Go.Lib Go.Deep Go.ChangeMaps Go.MapKept
variable {C:Cl} {vars:Nat->Int} {B pb rb fb d:Nat} {r:Rn} {w w' u:World} {value:Int} {al fl:List Tr}
theorem Tryz.infoI6:(Tryz.prog.info? 2).map (fun i=>(i.zero,i.size,i.bytes))=some (some (.int .i64 0),1,8):=by kernel_rfl
theorem RnC.setOuts{vO v:Value}{cs:Array Value}(h:RnC pb r vO cs)(l:List Int):RnC pb {r with outs:=l} v (cs.setIfInBounds 390 v):=
 ⟨bT Oa h.prog,fun i hi=>bT Oa (h.arr i hi),bT Oa h.fuel,bT Oa h.calls,bT Oa h.fin,bT Oa h.value,bT Oa h.site,nX h.outs⟩
theorem aTX(v:Int)(w:World)(hX:XW B pb rb fb d al fl vars value r w):Calls Tryz.prog 259 #[.pointer (some ⟨fb,0,none⟩),.int .i64 v] w fun e w'=>e= .returned (.tuple #[])/\RnW B pb rb (r.out v) w'/\Wx B rb w w':=by
 have h:=hX.rn;obtain⟨f0,_,_,_⟩:=hX.fm.cells;have HW:Hid (Calls Tryz.prog 80 #[.pointer (some ⟨rb,0,none⟩)] w fun e w'=>e= .returned (.bool (r.fin !=0))/\w=w'):=nM w h
 by_cases h0:r.fin=0
 ·have t0:(r.fin !=0)=false:=by simp[h0]
  have h4:r.out v={r with outs:=r.outs++[v]}:=if_pos h0;have hS:r.outs.length<=20000:=by have:=hX.bd.outs;omega
  obtain⟨i0,k7,k3,k2,k1⟩:=info_parts Tryz.infoI6;obtain⟨cs,vO,hc,h8,ho⟩:=h.ex;have h3:=(Oo hc);obtain⟨ao,cp,rfl,hao⟩:=eQ ho;have c4:w.cell? ⟨rb,390,none⟩=some (.slice ao r.outs.length cp):=Og hc h8.outs
  have f4:w.frozen? ⟨rb,390,none⟩=false:=by simp[World.frozen?,hc]
  obtain⟨fcs,h7,_⟩:=hX.fm;have k0:=(Oo h7);have hBw:B<=w.heap.size:=by have:=h.ge;omega
  have ag:some rb≠(Value.slice ao r.outs.length cp).ownBlock:=fun e=>by
   obtain⟨⟨c2,h5⟩,_⟩:=bEH ho e.symm;exact bEF hc h5 Ob rfl
  have agf:some fb≠(Value.slice ao r.outs.length cp).ownBlock:=fun e=>by
   obtain⟨⟨c2,h5⟩,_⟩:=bEH ho e.symm;exact bEF h7 h5 Ob rfl
  have FIN:Hid (∀ (g cap:Nat) (w1:World),w1.ownsRow B 2 1 (.slice (some ⟨g,0,none⟩) (r.outs.length+1) cap) (r.outs.length+1) (r.outs.map (Value.int .i64)++[.int .i64 v])->
   ((w.alloc (.cells #[.int .i64 v] 2)).drew).grownBy w1 (Value.slice ao r.outs.length cp).ownBlock->((Value.slice ao r.outs.length cp).ownBlock=some g\/g=w.heap.size+1)->
   RnW B pb rb (r.out v) (w1.setCell ⟨rb,390,none⟩ (.slice (some ⟨g,0,none⟩) (r.outs.length+1) cap))/\Wx B rb w (w1.setCell ⟨rb,390,none⟩ (.slice (some ⟨g,0,none⟩) (r.outs.length+1) cap))):=by
   intro g cap w1 h2 h1 h9;have z1:(w.alloc (.cells #[.int .i64 v] 2)).drew.heap.size=w.heap.size+1:=by show(w.alloc _).heap.size=_;simp
   have off:∀ {j:Nat},j < w.heap.size->some j≠(Value.slice ao r.outs.length cp).ownBlock->w1.heap[j]?=w.heap[j]?:=fun {j} hj k4=>
    (h1.block j (by rw[z1];omega) k4).trans (On hj)
   have k9:=(off h3 ag).trans hc
   have k8:g≠rb:=by
    rcases h9 with e|e
    ·intro e2;rw[e2]at e;exact ag e.symm
    ·omega
   have wx1:Wx B rb w w1:=by
    refine⟨h1.os,h1.tape,h1.output,by have:=h1.size;rw[z1]at this;omega,fun k hk _ k6=>off k6 (fun e=>?_),fun k c t hk _ ht=>(off (Oo hk) (fun e=>?_)).trans hk⟩
    ·have:=(bEH ho e.symm).2;omega
    ·obtain⟨⟨c2,h5⟩,_⟩:=bEH ho e.symm;exact bEF hk h5 ht rfl
   refine⟨?_,wx1.set _ _⟩;rw[h4];refine⟨⟨_,_,aM (o:=390) _ k9,h8.setOuts _,?_⟩,h.ge,h.few.1,h.few.2.1,by rw[List.length_append];simp only[List.length_cons,List.length_nil];omega⟩;have k5:(r.outs++[v]).length=r.outs.length+1:=Od
   rw[show({r with outs:=r.outs++[v]}:Rn).outs=r.outs++[v]from rfl,k5,List.map_append];refine⟨h2.1,?_⟩;rcases h2.2 with⟨hx,_⟩|⟨g',cap',cur,h6,y0,hh,r'⟩
   ·cases hx
   ·refine .inr ⟨g',cap',cur,h6,y0,?_,r'⟩;simp only[Value.slice.injEq,Option.some.injEq,Addr.mk.injEq]at h6;obtain⟨⟨rfl,_,_⟩,_,_⟩:=h6;exact(Om k8).trans hh
  clear hc h7 h hX h0 h4 h8;go_enter Tryz.func259,Tryz.ntmps259
  go_wp2_with fail
  refine HW.out.mono ?_;rintro e w' ⟨rfl,rfl⟩;go_wp2_with fail
  go_region_law
   ((refine step_append_lies _ (by rfl) _ _ _ (by rfl) B 2 i0 _ 1 8 Tryz.underlying30 k7 k3 k2 k1 rfl Oa (.slice ao r.outs.length cp) r.outs.length (r.outs.map (Value.int .i64)) (by rfl) ((ho.alloc _).drew)
      ⟨w.heap.size,0,none⟩ 1 1 [.int .i64 v] (by rfl) (by rfl) (World.news_of_block (cs:=#[.int .i64 v]) (t:=2) (fr:=(0,0)) (Qb w _)) (by simp[Value.oneCell'])
      Oa (by unfold maxLen;omega) Oa (by simp;omega) (w.heap.size+1) Od ?_;intro g cap w1 h2 h1 h9 hlt1;have q1:=(h1.cell_far ⟨rb,390,none⟩ (kO h3) ag).trans (sS h3 c4);have q2:=(h1.frozen_far ⟨rb,390,none⟩ (kO h3) ag).trans (xB h3 f4);have q3:=(h1.cell_far ⟨fb,0,none⟩ (kO k0) agf).trans (sS k0 f0)))
  all_goals obtain⟨f1,f2⟩:=FIN.out g cap w1 h2 h1 h9
  all_goals go_wp2
  all_goals go_end0
  all_goals exact⟨rfl,f1,f2⟩
 ·have t0:(r.fin !=0)=true:=by simp[h0]
  have FIN:Hid (RnW B pb rb (r.out v) w):=by rw[Hid,show r.out v=r from if_neg h0];exact h
  clear h h0 hX;go_enter Tryz.func259,Tryz.ntmps259
  go_wp2_with fail
  refine HW.out.mono ?_;rintro e w' ⟨rfl,rfl⟩;go_wp2;go_end0
  exact⟨rfl,FIN.out,Wx.refl _ _ _⟩
end
end Go.Proofs.YtikffmloeifkpaaGreatDoor
