/- Contracts. -/
import Derived.Test.YtikffmloeifkpaaGreatDoorQ11
namespace Go.Proofs.YtikffmloeifkpaaGreatDoor
open Go.RowKit Go.Lib Go.Deep Go.ChangeMaps Go.MapKept
theorem eY{T e:TypeId}(x u:TypeId)(v:Value)(w:World)(hT:Tryz.prog.underlying T=some (.pointer e))(hz:(zeroValue T).run Tryz.prog w= .ok (.pointer none) w):
 (Instr.typeAssert (.iface u v) x T true).run Tryz.prog w= .ok (.tuple #[if u=T then v else .pointer none,.bool (decide (u=T))]) w:=by
 unfold Instr.typeAssert
 by_cases h:u=T
 ·subst h;simp[run_underlying hT,Result.andThen]
 ·simp[run_underlying hT,Result.andThen,h,hz]
theorem oD(u:TypeId)(v:Value)(w:World):(Instr.typeAssert (.iface u v) 269 359 true).run Tryz.prog w= .ok (.tuple #[if u=359 then v else .pointer none,.bool (decide (u=359))]) w:=eY _ u v w Tryz.underlying359 (by kernel_rfl)
theorem pT(u:TypeId)(v:Value)(w:World):(Instr.typeAssert (.iface u v) 269 393 true).run Tryz.prog w= .ok (.tuple #[if u=393 then v else .pointer none,.bool (decide (u=393))]) w:=eY _ u v w Tryz.underlying393 (by kernel_rfl)
theorem xL(u:TypeId)(v:Value)(w:World):(Instr.typeAssert (.iface u v) 269 396 true).run Tryz.prog w= .ok (.tuple #[if u=396 then v else .pointer none,.bool (decide (u=396))]) w:=eY _ u v w Tryz.underlying396 (by kernel_rfl)
theorem mX(u:TypeId)(v:Value)(w:World):(Instr.typeAssert (.iface u v) 269 398 true).run Tryz.prog w= .ok (.tuple #[if u=398 then v else .pointer none,.bool (decide (u=398))]) w:=eY _ u v w Tryz.underlying398 (by kernel_rfl)
theorem rP(u:TypeId)(v:Value)(w:World):(Instr.typeAssert (.iface u v) 269 401 true).run Tryz.prog w= .ok (.tuple #[if u=401 then v else .pointer none,.bool (decide (u=401))]) w:=eY _ u v w Tryz.underlying401 (by kernel_rfl)
theorem rQ(u:TypeId)(v:Value)(w:World):(Instr.typeAssert (.iface u v) 269 403 true).run Tryz.prog w= .ok (.tuple #[if u=403 then v else .pointer none,.bool (decide (u=403))]) w:=eY _ u v w Tryz.underlying403 (by kernel_rfl)
def aD:Tr->Nat
 | .nil=>0
 | .node _ _ _ l _=>aO l
def Rs.callName(s:Rs)(F:cM)(its:List Tr)(x:ByteArray)(p:Int)(n:Nat):Rs:=match eK F its x with
 |some (.node _ _ _ l _)=>if n=aD l then s else s.fail 5 p
 |_=>s.fail 4 p
def iY(F:cM)(its:List Tr)(x:ByteArray)(n:Nat)(q:Int):Int:=match eK F its x with
 |some (.node _ _ a l _)=>if n=aD l then a.which else q
 |_=>q
def rs1(F:cM)(its:List Tr)(a:Nd)(n:Nat)(s:Rs):Rs:=
 if a.tag=9 then(if a.flag=true then s.newVar a.name a.npos 12 else s.oldVar a.name a.npos)
 else if a.tag=1 then s.oldVar a.name a.npos else if a.tag=2\/a.tag=10 then s.arrayName F its a.name a.npos else if a.tag=3 then s.callName F its a.name a.npos n else s
def wh1(F:cM)(its:List Tr)(a:Nd)(n:Nat)(s:Rs):Int:=
 if a.tag=1\/a.tag=9 then(look a.name s.vars).getD 0 else if a.tag=2\/a.tag=10 then fL F its a.name a.which else if a.tag=3 then iY F its a.name n a.which else a.which
def rsT(F:cM)(its:List Tr):Tr->Rs->Rs
 | .nil,s=>s
 | .node _ _ a l r,s=>
  if a.tag=9/\a.flag=true then(rsT F its l (rs1 F its a (aD l) s)).addVar a.name
  else rsT F its r (rsT F its l (rs1 F its a (aD l) s))
def reT(F:cM)(its:List Tr):Tr->Rs->Tr
 | .nil,_=> .nil
 | .node b o a l r,s=>
  if a.tag=9/\a.flag=true then .node b o {a with which:=(rsT F its l (rs1 F its a (aD l) s)).vars.length} (reT F its l (rs1 F its a (aD l) s)) r
  else .node b o {a with which:=wh1 F its a (aD l) s} (reT F its l (rs1 F its a (aD l) s)) (reT F its r (rsT F its l (rs1 F its a (aD l) s)))
theorem qC(t:Tr):aD (er t)=aD t:=by
 cases t with
 |nil=>rfl
 |node b o a l r=>exact aHY l
theorem tE(F:cM)(its:List Tr):∀ (t:Tr) (s:Rs),rsT F its (er t) s=rsT F its t s:=by
 intro t
 induction t with
 |nil=>intro s;rfl
 |node b o a l r ihl ihr=>
  intro s;simp only[er,rsT,ihl,ihr,qC]
theorem aFW(F:cM)(its:List Tr):∀ (t:Tr) (s:Rs),reT F its (er t) s=er (reT F its t s):=by
 intro t
 induction t with
 |nil=>intro s;rfl
 |node b o a l r ihl ihr=>
  intro s;simp only[er,reT,tE,qC,ihl,ihr]
  split<;>rfl
theorem dJ(F:cM)(its:List Tr):∀ (t:Tr) (s:Rs),Sh t (reT F its t s):=by
 intro t
 induction t with
 |nil=>intro s;trivial
 |node b o a l r ihl ihr=>
  intro s;unfold reT
  split
  ·rename_i h;exact⟨rfl,rfl,rfl,rfl,rfl,rfl,rfl,rfl,fun e=>Oa,fun _=>rfl,ihl _,Sh.refl _⟩
  ·refine⟨rfl,rfl,rfl,rfl,rfl,rfl,rfl,rfl,fun e=>?_,fun _=>rfl,ihl _,ihr _⟩;show wh1 F its a _ s=_;unfold wh1;rw[Oh,Oh,Oh]
def Pt(t:Tr):TypeId->Int->Prop:=fun ty p=>bCI ty/\p∈ps t
def Po(a:Nd):TypeId->Int->Prop:=fun ty p=>bCI ty/\p∈po a
theorem Po.to{b o:Nat}{a:Nd}{l r:Tr}(ty:TypeId)(p:Int)(h:Po a ty p):Pt (.node b o a l r) ty p:=⟨h.1,aAU h.2⟩
theorem Pt.left{b o:Nat}{a:Nd}{l r:Tr}(ty:TypeId)(p:Int)(h:Pt l ty p):Pt (.node b o a l r) ty p:=⟨h.1,fT h.2⟩
theorem Pt.right{b o:Nat}{a:Nd}{l r:Tr}(ty:TypeId)(p:Int)(h:Pt r ty p):Pt (.node b o a l r) ty p:=⟨h.1,jE h.2⟩
theorem rX{H k:Nat}{w:World}{a:Nd}{l r:Tr}(h:Own w k a l r)(hk:H<=k)(ht:a.tag=1\/a.tag=2\/a.tag=3\/a.tag=9\/a.tag=10):mE H (Po a) w k 0 a.name a.npos:=by
 have hp:a.npos∈po a:=by unfold po;rw[Oh,if_pos (by rcases ht with h|h|h|h|h<;>rw[h]<;>rfl)];simp
 have key:∀ t cs,w.heap[k]?=some (.cells cs t (0,0))->Nam cs 0 a->bCI t->cK t->mE H (Po a) w k 0 a.name a.npos:=by
  intro t cs hc hn h2 h3;obtain⟨n0,n1,n2⟩:=hn;exact⟨⟨cs,t,a.which,a.npos,hc,n0,n1,n2,n1,⟨h2,hp⟩,h3⟩,hk⟩
 unfold Own at h;rcases ht with ht|ht|ht|ht|ht<;>rw[ht]at h
 ·obtain⟨cs,hc,hn⟩:=h;exact key _ cs hc hn (by simp[bCI]) (by simp[cK,aK])
 ·obtain⟨cs,hc,hn,_⟩:=h;exact key _ cs hc hn (by simp[bCI]) (by simp[cK,aK])
 ·obtain⟨cs,hc,hn,_⟩:=h;exact key _ cs hc hn (by simp[bCI]) (by simp[cK,aK])
 ·obtain⟨cs,hc,hn,_⟩:=h;exact key _ cs hc hn (by simp[bCI]) (by simp[cK,aK])
 ·obtain⟨cs,hc,hn,_⟩:=h;exact key _ cs hc hn (by simp[bCI]) (by simp[cK,aK])
theorem Nam.set{cs:Array Value}{a:Nd}(h:Nam cs 0 a)(i:Int):Nam (cs.setIfInBounds 2 (.int .i64 i)) 0 {a with which:=i}:=by
 refine⟨(Qh Oa).trans h.1,(Qh Oa).trans h.2.1,?_⟩;show(cs.setIfInBounds 2 _)[2]?=_;rw[Array.getElem?_setIfInBounds_self_of_lt (Oo h.2.2)]
theorem tH{k:Nat}{w w':World}{a:Nd}{l r:Tr}{f:Int->Int}(h:Own w k a l r)(ht:a.tag=1\/a.tag=2\/a.tag=3\/a.tag=9\/a.tag=10)(hw:Wr k 2 f w w'):Own w' k {a with which:=f a.which} l r:=by
 unfold Own at h ⊢;dsimp only;have ne:∀ {cs:Array Value} {j:Nat} {v:Value} {x:Value},2≠j->cs[j]?=some v->(cs.setIfInBounds 2 x)[j]?=some v:=fun hj hv=>(Qh hj).trans hv;rcases ht with ht|ht|ht|ht|ht<;>rw[ht]at h ⊢
 ·obtain⟨cs,hc,hn⟩:=h;exact⟨_,hw _ _ _ hc hn.2.2,hn.set _⟩
 ·obtain⟨cs,hc,hn,h3,h4⟩:=h;exact⟨_,hw _ _ _ hc hn.2.2,hn.set _,ne Ob h3,ne Ob h4⟩
 ·obtain⟨cs,hc,hn,h3,h4⟩:=h;exact⟨_,hw _ _ _ hc hn.2.2,hn.set _,ne Ob h3,ne Ob h4⟩
 ·obtain⟨cs,hc,hn,h3,h4⟩:=h;exact⟨_,hw _ _ _ hc hn.2.2,hn.set _,ne Ob h3,ne Ob h4⟩
 ·obtain⟨cs,hc,hn,h3,h4,h5⟩:=h;exact⟨_,hw _ _ _ hc hn.2.2,hn.set _,ne Ob h3,ne Ob h4,ne Ob h5⟩
structure Uq(a:Nd)(l r:Tr):Prop where
 left:(ps l).Nodup
 right:(ps r).Nodup
 own_l:∀ p∈po a,p ∉ ps l
 own_r:∀ p∈po a,p ∉ ps r
 apart:∀ p∈ps l,p ∉ ps r
theorem dZ{b o:Nat}{a:Nd}{l r:Tr}(h:(ps (.node b o a l r)).Nodup):Uq a l r:=by
 unfold ps at h
 split at h
 ·rename_i h6;have e:po a=[a.pos]:=if_pos h6;rw[List.nodup_append]at h;obtain⟨h1,h2,h3⟩:=h;rw[List.nodup_cons]at h2;refine⟨h1,h2.2,fun p hp hl=>?_,fun p hp hr=>?_,fun p hl hr=>h3 p hl p (Ql _ hr) rfl⟩
  ·rw[e,List.mem_singleton]at hp;subst hp;exact h3 _ hl _ Qj rfl
  ·rw[e,List.mem_singleton]at hp;subst hp;exact h2.1 hr
 ·rename_i h6
  split at h
  ·rename_i hn;have e:po a=[a.npos]:=(if_neg h6).trans (if_pos hn);rw[List.nodup_cons,List.nodup_append]at h;obtain⟨h0,h1,h2,h3⟩:=h;refine⟨h1,h2,fun p hp hl=>?_,fun p hp hr=>?_,fun p hl hr=>h3 p hl p hr rfl⟩
   ·rw[e,List.mem_singleton]at hp;subst hp;exact h0 (List.mem_append_left _ hl)
   ·rw[e,List.mem_singleton]at hp;subst hp;exact h0 (List.mem_append_right _ hr)
  ·rename_i hn;have e:po a=[]:=(if_neg h6).trans (if_neg hn);rw[List.nodup_append]at h;obtain⟨h1,h2,h3⟩:=h;exact⟨h1,h2,fun p hp=>(by rw[e]at hp;cases hp),fun p hp=>(by rw[e]at hp;cases hp),fun p hl hr=>h3 p hl p hr rfl⟩
def isV(t:Tr):Prop:=∃ u p,bCH t= .iface u (.pointer (some p))
theorem Ws.val{t:Tr}{s:Nat}(h:Ws s t)(hs:s=0\/s=1\/s=2\/s=21):isV t:=by
 cases t with
 |nil=>exact absurd h (by unfold Ws bK;omega)
 |node b o a l r=>
  obtain⟨_,x,y,e,_⟩:=h.parts;refine⟨bZ a.tag,⟨b,0,none⟩,if_neg (fun ht=>?_)⟩;rw[ht]at e;rcases hs with rfl|rfl|rfl|rfl<;>cases e
theorem Ws.nil_of{t:Tr}(h:Ws 99 t):t= .nil:=by
 cases t with
 |nil=>rfl
 |node b o a l r=>obtain⟨_,x,y,e,_⟩:=h.parts;cases e
variable {H pb rb fb vb:Nat} {pc:Array Value} {F:cM} {its:List Tr}
def bCY(H pb rb fb vb:Nat)(pc:Array Value)(F:cM)(P:TypeId->Int->Prop)(t:Tr)(s:Rs)(w:World):Ending->World->Prop:=fun e w'=>e= .returned (.tuple #[])/\RsW H pb rb fb vb pc F s w'/\IsT w' t/\Fr H P w w'
def GN(f H pb rb fb vb:Nat)(pc:Array Value)(F:cM)(its:List Tr)(val:Tr->Value)(t:Tr):Prop:=
 ∀ s w,NsW H pb rb fb vb pc F its s w->IsT w t->Calls Tryz.prog f #[.pointer (some ⟨rb,0,none⟩),val t] w (bCY H pb rb fb vb pc F (Pt t) (reT F its t s) (rsT F its t s) w)
theorem Po.body{a:Nd}(t:TypeId)(p:Int)(h:Po a t p):bCI t:=h.1
theorem Pt.body{l:Tr}(t:TypeId)(p:Int)(h:Pt l t p):bCI t:=h.1
theorem F0.body(t:TypeId)(p:Int)(h:F0 t p):bCI t:=absurd h id
theorem Po.out{a:Nd}{l:Tr}(h:∀ p∈po a,p ∉ ps l):∀ p∈ps l,∀ ty,¬Po a ty p:=fun p hp _ hq=>h p hq.2 hp
theorem Pt.out{l r:Tr}(h:∀ p∈ps l,p ∉ ps r):∀ p∈ps r,∀ ty,¬Pt l ty p:=fun p hp _ hq=>h p hq.2 hp
theorem cX{H b:Nat}{P:TypeId->Int->Prop}{w w':World}{a:Nd}{l r:Tr}(h:Own w b a l r)(hx:Fr H P w w')(hP:∀ t p,P t p->bCI t)(ho:∀ p∈po a,∀ t,¬P t p)(h0:a.tag≠20):Own w' b a l r:=
 dH.fr hx (fun t p hp=>(hP t p hp).pos) h ho (fun e=>absurd e h0)
theorem Uq.apart_{a:Nd}{l r:Tr}(h:Uq a l r):∀ p∈ps r,p ∉ ps l:=fun p hr hl=>h.apart p hl hr
theorem qE{H s:Nat}{w w':World}{t t' r:Tr}(h:IsT w t')(hx:Fr H (Pt r) w w')(hw:Ws s t)(hs:Sh t t')(ha:∀ p∈ps r,p ∉ ps t):IsT w' t':=
 IsT.fr hx (fun ty p hp=>(Pt.body ty p hp).pos) (hs.ws hw) h (fun p hp=>by rw[hs.ps]at hp;exact Pt.out ha p hp)
theorem gZ{b:Nat}{w:World}{a:Nd}{l r l' r':Tr}(h:Own w b a l r)(hl:Sh l l')(hr:Sh r r'):Own w b a l' r':=dH.sh h hl hr
theorem aI{b:Nat}{w:World}{a:Nd}{l r:Tr}(h:Own w b a l r){n:Nat}(ht:a.tag=n):dH n w b a l r:=by unfold Own at h;rw[ht]at h;exact h
theorem mL{a:Nd}{b o:Nat}{l r:Tr}{s:Rs}(h: ¬(a.tag=9/\a.flag=true)):reT F its (.node b o a l r) s= .node b o {a with which:=wh1 F its a (aD l) s} (reT F its l (rs1 F its a (aD l) s)) (reT F its r (rsT F its l (rs1 F its a (aD l) s))):=by
 show(if _ then _ else _)=_;rw[if_neg h]
theorem jM{a:Nd}{b o:Nat}{l r:Tr}{s:Rs}(h: ¬(a.tag=9/\a.flag=true)):rsT F its (.node b o a l r) s=rsT F its r (rsT F its l (rs1 F its a (aD l) s)):=by
 show(if _ then _ else _)=_;rw[if_neg h]
set_option maxRecDepth 100000 in
set_option maxHeartbeats 4000000 in
theorem aO3{b o:Nat}{a:Nd}{l r:Tr}(hw:Ws 0 (.node b o a l r))(hH:aUI H (.node b o a l r))(k8:(ps (.node b o a l r)).Nodup)(hl:a.tag=2\/a.tag=4\/a.tag=5\/a.tag=6->Ws 0 l/\GN 195 H pb rb fb vb pc F its bCH l)(hr:a.tag=6->Ws 0 r/\GN 195 H pb rb fb vb pc F its bCH r)(hc:a.tag=3->GN 249 H pb rb fb vb pc F its cB (.node b o a l r)):GN 195 H pb rb fb vb pc F its bCH (.node b o a l r):=by
 intro s w h hi;obtain⟨y4,sx,sy,h5,y3,y2⟩:=hw.parts;have hn:a.name.size<=maxLen:=by have:=y4.name;unfold maxLen;omega
 have ht:a.tag < 7:=by
  rcases Qk a.tag 7 with h|h
  ·exact h
  ·exfalso;unfold sig at h5;rw[if_pos rfl]at h5;rw[Oh,Oh,Oh,Oh,Oh]at h5;cases h5
 have h9:a.tag=0\/a.tag=1->l= .nil:=fun h=>by
  have:sx=99:=by rcases h with h|h<;>rw[h]at h5<;>cases h5<;>rfl
  subst this;exact y3.nil_of
 have h6:a.tag≠6->r= .nil:=fun h=>by
  have:sy=99:=by
   have h2:a.tag=0\/a.tag=1\/a.tag=2\/a.tag=3\/a.tag=4\/a.tag=5:=Oa
   rcases h2 with h2|h2|h2|h2|h2|h2<;>rw[h2]at h5<;>cases h5<;>rfl
  subst this;exact y2.nil_of
 have y7:H<=b:=hH.2.2 (by unfold gY;omega);have h1:=hi.2.2;have uq:=dZ k8;have n9: ¬(a.tag=9/\a.flag=true):=fun h=>Oa
 rw[mL n9,jM n9];have hv:bCH (.node b o a l r)= .iface (bZ a.tag) (.pointer (some ⟨b,0,none⟩)):=Oh;rw[hv];clear hv h5;have t1:=fun u v=>oD u v w;have t2:=fun u v=>pT u v w;have t3:=fun u v=>xL u v w;have t4:=fun u v=>mX u v w;have t5:=fun u v=>rP u v w;have t6:=fun u v=>rQ u v w
 by_cases k1:a.tag=1
 ·obtain rfl:=h9 (.inr k1);obtain rfl:=h6 Oa;have hs:rs1 F its a (aD .nil) s=s.oldVar a.name a.npos:=by simp[rs1,k1]
  have k7:wh1 F its a (aD .nil) s=(look a.name s.vars).getD 0:=by simp[wh1,k1]
  rw[hs,k7];have HS:Hid (Own w b a .nil .nil):=h1;have hN:=rX h1 y7 (.inl k1);have HK:Hid (a.tag=1):=k1;rw[show bZ a.tag=359 by rw[k1];rfl];clear h9 h6 hl hr hc h1 k1 hs k7 n9 ht uq k8 hi y3 y2 hH hw;go_enter Tryz.func195,Tryz.ntmps195
  go_wp2_with fail
  refine(yP w h.rs hN hn).mono ?_;rintro e W2 ⟨rfl,h2,x2,wr2⟩;go_wp2;go_end0
  exact⟨rfl,h2,⟨trivial,trivial,tH HS.out (.inl HK.out) wr2⟩,x2.mono Po.to⟩
 by_cases k2:a.tag=2
 ·obtain rfl:=h6 Oa;have hs:rs1 F its a (aD l) s=s.arrayName F its a.name a.npos:=by simp[rs1,k2]
  have k7:wh1 F its a (aD l) s=fL F its a.name a.which:=by simp[wh1,k2]
  rw[hs,k7];have hN:=rX h1 y7 (.inr (.inl k2));obtain⟨h4,h7⟩:=hl (.inl k2);obtain⟨u,p,k9⟩:=h4.val Ox;have HL:Hid (GN 195 H pb rb fb vb pc F its bCH l):=h7;have HK:Hid (a.tag=2):=k2;have HU:Hid (Uq a l .nil):=uq;have HI:Hid (IsT w (.node b o a l .nil)):=hi;rw[show bZ a.tag=393 by rw[k2];rfl];clear h9 h6 hl hr hc h1 k1 k2 h7 hs k7 n9 ht uq k8 hi hH hw;go_enter Tryz.func195,Tryz.ntmps195
  go_wp2_with fail
  refine(sW w h hN hn).mono ?_;rintro e W2 ⟨rfl,h2,x2,wr2⟩;have i2:IsT W2 l:=IsT.fr x2 (fun t p hp=>(Po.body t p hp).pos) h4 HI.out.1 (Po.out HU.out.own_l);have o2:=tH HI.out.2.2 (.inr (.inl HK.out)) wr2
  have m3:W2.cell? ⟨b,3,none⟩=some (bCH l):=by
   obtain⟨cs,hc,_,h3,_⟩:=aI o2 (n:=2) HK.out;rw[cell_of_row _ _ _ _ _ _ hc];exact h3
  have h0:=HL.out _ _ (h.fr h2 x2 Po.body) i2;rw[k9]at m3 h0;have y9:Hid (Own W2 b {a with which:=fL F its a.name a.which} l .nil):=o2;clear o2 wr2;go_wp2_with fail
  refine h0.mono ?_;rintro e W3 ⟨rfl,h3,i3,x3⟩;go_wp2;go_end0
  have o3:=cX y9.out x3 Pt.body (fun p hp ty hq=>HU.out.own_l p hp hq.2) (by have:=HK.out;show a.tag≠20;omega);exact⟨rfl,h3,⟨i3,trivial,gZ o3 (dJ _ _ _ _) (Sh.refl _)⟩,(x2.mono Po.to).trans (x3.mono Pt.left)⟩
 by_cases k3:a.tag=3
 ·have h0:=hc k3 s w h hi;rw[mL n9,jM n9]at h0;have y0:Calls Tryz.prog 249 #[.pointer (some ⟨rb,0,none⟩),.pointer (some ⟨b,0,none⟩)] w _:=h0;rw[show bZ a.tag=396 by rw[k3];rfl];clear h9 h6 hl hr hc h1 k1 k2 k3 h0 n9 ht uq k8 hi y3 y2 hH hw;go_enter Tryz.func195,Tryz.ntmps195
  go_wp2_with fail
  refine y0.mono ?_;rintro e W2 ⟨rfl,h2,i2,x2⟩;go_wp2;go_end0
  exact⟨rfl,h2,i2,x2⟩
 have k7:a.tag≠1->a.tag≠2->a.tag≠3->wh1 F its a (aD l) s=a.which:=fun _ _ _=>by unfold wh1;rw[Oh,Oh,Oh]
 have y5:a.tag≠1->a.tag≠2->a.tag≠3->rs1 F its a (aD l) s=s:=fun _ _ _=>by unfold rs1;rw[Oh,Oh,Oh,Oh]
 rw[k7 k1 k2 k3,y5 k1 k2 k3];clear k7 y5
 by_cases k4:a.tag=4
 ·obtain rfl:=h6 Oa;obtain⟨h4,h7⟩:=hl (.inr (.inl k4));obtain⟨u,p,k9⟩:=h4.val Ox
  have m3:w.cell? ⟨b,0,none⟩=some (bCH l):=by
   obtain⟨cs,hc,h3⟩:=aI h1 (n:=4) k4;rw[cell_of_row _ _ _ _ _ _ hc];exact h3
  have h0:=h7 s w h hi.1;rw[k9]at m3 h0;have HK:Hid (a.tag=4):=k4;have HU:Hid (Uq a l .nil):=uq;have HO:Hid (Own w b a l .nil):=h1;rw[show bZ a.tag=398 by rw[k4];rfl];clear h9 h6 hl hr hc h1 k1 k2 k3 k4 h7 n9 ht uq k8 hi hH hw;go_enter Tryz.func195,Tryz.ntmps195
  go_wp2_with fail
  refine h0.mono ?_;rintro e W3 ⟨rfl,h3,i3,x3⟩;go_wp2;go_end0
  have o3:=cX HO.out x3 Pt.body (fun p hp ty hq=>HU.out.own_l p hp hq.2) (Oi HK.out);exact⟨rfl,h3,⟨i3,trivial,gZ o3 (dJ _ _ _ _) (Sh.refl _)⟩,x3.mono Pt.left⟩
 by_cases k5:a.tag=5
 ·obtain rfl:=h6 Oa;obtain⟨h4,h7⟩:=hl (.inr (.inr (.inl k5)));obtain⟨u,p,k9⟩:=h4.val Ox
  have m3:w.cell? ⟨b,0,none⟩=some (bCH l):=by
   obtain⟨cs,hc,h3⟩:=aI h1 (n:=5) k5;rw[cell_of_row _ _ _ _ _ _ hc];exact h3
  have h0:=h7 s w h hi.1;rw[k9]at m3 h0;have HK:Hid (a.tag=5):=k5;have HU:Hid (Uq a l .nil):=uq;have HO:Hid (Own w b a l .nil):=h1;rw[show bZ a.tag=401 by rw[k5];rfl];clear h9 h6 hl hr hc h1 k1 k2 k3 k4 k5 h7 n9 ht uq k8 hi hH hw;go_enter Tryz.func195,Tryz.ntmps195
  go_wp2_with fail
  refine h0.mono ?_;rintro e W3 ⟨rfl,h3,i3,x3⟩;go_wp2;go_end0
  have o3:=cX HO.out x3 Pt.body (fun p hp ty hq=>HU.out.own_l p hp hq.2) (Oi HK.out);exact⟨rfl,h3,⟨i3,trivial,gZ o3 (dJ _ _ _ _) (Sh.refl _)⟩,x3.mono Pt.left⟩
 by_cases k6:a.tag=6
 ·obtain⟨h4,h7⟩:=hl (.inr (.inr (.inr k6)));obtain⟨u,p,k9⟩:=h4.val Ox;obtain⟨y1,y6⟩:=hr k6;obtain⟨u2,p2,y8⟩:=y1.val Ox;have HR:Hid (GN 195 H pb rb fb vb pc F its bCH r):=y6
  have own2:∀ w',Own w' b a l r->w'.cell? ⟨b,2,none⟩=some (bCH l)/\w'.cell? ⟨b,3,none⟩=some (bCH r):=by
   intro w' ho;obtain⟨cs,hc,_,_,h2,h3,_⟩:=aI ho (n:=6) k6;exact⟨Og hc h2,Og hc h3⟩
  have m2:=(own2 w h1).1;have h0:=h7 s w h hi.1;rw[k9]at m2 h0;have HK:Hid (a.tag=6):=k6;have HU:Hid (Uq a l r):=uq;have HI:Hid (IsT w (.node b o a l r)):=hi;rw[show bZ a.tag=403 by rw[k6];rfl];clear h9 h6 hl hr hc h1 k1 k2 k3 k4 k5 k6 h7 y6 n9 ht uq k8 hi hH hw;go_enter Tryz.func195,Tryz.ntmps195
  go_wp2_with fail
  refine h0.mono ?_;rintro e W2 ⟨rfl,h2,i2,x2⟩;have o2:=cX HI.out.2.2 x2 Pt.body (fun p hp ty hq=>HU.out.own_l p hp hq.2) (Oi HK.out);have j2:IsT W2 r:=IsT.fr x2 (fun t p hp=>(Pt.body t p hp).pos) y1 HI.out.2.1 (Pt.out HU.out.apart);have m3:=(own2 W2 o2).2;have h8:=HR.out _ _ (h.fr h2 x2 Pt.body) j2;rw[y8]at m3 h8;go_wp2_with fail
  refine h8.mono ?_;rintro e W3 ⟨rfl,h3,i3,x3⟩;go_wp2;go_end0
  have o3:=cX o2 x3 Pt.body (fun p hp ty hq=>HU.out.own_r p hp hq.2) (Oi HK.out);have l3:=qE i2 x3 h4 (dJ _ _ _ _) HU.out.apart_;exact⟨rfl,h3,⟨l3,i3,gZ o3 (dJ _ _ _ _) (dJ _ _ _ _)⟩,(x2.mono Pt.left).trans (x3.mono Pt.right)⟩
 ·have k0:a.tag=0:=Oa
  obtain rfl:=h9 (.inl k0);obtain rfl:=h6 Oa;rw[show bZ a.tag=362 by rw[k0];rfl];clear h9 h6 hl hr hc h1 k1 k2 k3 k4 k5 k6 k0 n9 ht uq k8 hH hw;go_enter Tryz.func195,Tryz.ntmps195
  go_wp2;go_end0
  exact⟨rfl,h.rs,hi,Fr.refl _ _ _⟩
end Go.Proofs.YtikffmloeifkpaaGreatDoor
