/- Contracts. -/
import Derived.Test.YtikffmloeifkpaaGreatDoorR11
namespace Go.Proofs.YtikffmloeifkpaaGreatDoor
open Go.RowKit Go.Lib Go.Deep Go.ChangeMaps Go.MapKept Tryz
def isV(t:Tr):Prop:=∃ u p,bCH t= .iface u (.pointer (some p))
theorem Ws.g{t:Tr}{s:Nat}(h:Ws s t)(c:s=0\/s=1\/s=2\/s=21):isV t:=by
 cases t with
 |nil=>exact absurd h (by unfold Ws bK;omega)
 |node b o a l r=>
  obtain⟨_,x,y,e,_⟩:=h.parts;refine⟨bZ a.a,⟨b,0,none⟩,if_neg (fun d=>?_)⟩;rw[d]at e;rcases c with rfl|rfl|rfl|rfl<;>cases e
theorem Ws.nil_of{t:Tr}(h:Ws 99 t):t= .nil:=by
 cases t with
 |nil=>rfl
 |node b o a l r=>obtain⟨_,x,y,e,_⟩:=h.parts;cases e
variable {H O N I U:Nat} {Z:Array Value} {F:cM} {its:List Tr}
def bCY(H O N I U:Nat)(Z:Array Value)(F:cM)(P:TypeId->Int->Prop)(t:Tr)(s:Rs)(w:World):Ending->World->Prop:=fun e w'=>e= .returned (.tuple #[])/\RsW H O N I U Z F s w'/\IsT w' t/\Fr H P w w'
def GN(f H O N I U:Nat)(Z:Array Value)(F:cM)(its:List Tr)(val:Tr->Value)(t:Tr):Prop:=
 ∀ s w,NsW H O N I U Z F its s w->IsT w t->Calls prog f #[Qd N,val t] w (bCY H O N I U Z F (Pt t) (reT F its t s) (rsT F its t s) w)
theorem Po.body{a:Nd}(t:TypeId)(p:Int)(h:Po a t p):bCI t:=h.1
theorem Pt.body{l:Tr}(t:TypeId)(p:Int)(h:Pt l t p):bCI t:=h.1
theorem F0.body(t:TypeId)(p:Int)(h:F0 t p):bCI t:=Qj
theorem Po.o{a:Nd}{l:Tr}(h:∀ p∈po a,p ∉ ps l):∀ p∈ps l,∀ d,¬Po a d p:=fun p b _ c=>h p c.2 b
theorem Pt.o{l r:Tr}(h:∀ p∈ps l,p ∉ ps r):∀ p∈ps r,∀ c,¬Pt l c p:=fun p a _ b=>h p b.2 a
theorem cX{H b:Nat}{P:TypeId->Int->Prop}{w w':World}{a:Nd}{l r:Tr}(h:Own w b a l r)(f:Fr H P w w')(c:∀ t p,P t p->bCI t)(d:∀ p∈po a,∀ t,¬P t p)(g:a.a≠20):Own w' b a l r:=
 dH.fr f (fun t p e=>(c t p e).e) h d Oa
theorem Uq.apart_{a:Nd}{l r:Tr}(h:Uq a l r):∀ p∈ps r,p ∉ ps l:=fun p c b=>h.apart p b c
theorem bOT{H s:Nat}{w w':World}{t C r:Tr}(h:IsT w C)(e:Fr H (Pt r) w w')(d:Ws s t)(b:Sh t C)(c:∀ p∈ps r,p ∉ ps t):IsT w' C:=
 IsT.fr e (fun f p a=>(Pt.body f p a).e) (b.ws d) h (fun p a=>by rw[b.ps]at a;exact Pt.o c p a)
theorem gZ{b:Nat}{w:World}{a:Nd}{l r c d:Tr}(h:Own w b a l r)(e:Sh l c)(f:Sh r d):Own w b a c d:=dH.sh h e f
theorem aI{b:Nat}{w:World}{a:Nd}{l r:Tr}(h:Own w b a l r){n:Nat}(c:a.a=n):dH n w b a l r:=by grind[Own]
theorem mL{a:Nd}{b o:Nat}{l r:Tr}{s:Rs}(h: ¬(a.a=9/\a.flag=true)):reT F its (.node b o a l r) s= .node b o {a with c:=wh1 F its a (aD l) s} (reT F its l (rs1 F its a (aD l) s)) (reT F its r (rsT F its l (rs1 F its a (aD l) s))):=by
 show(if _ then _ else _)=_;simp[*]
theorem jM{a:Nd}{b o:Nat}{l r:Tr}{s:Rs}(h: ¬(a.a=9/\a.flag=true)):rsT F its (.node b o a l r) s=rsT F its r (rsT F its l (rs1 F its a (aD l) s)):=by
 show(if _ then _ else _)=_;simp[*]
set_option maxRecDepth 100000 in
set_option maxHeartbeats 4000000 in
theorem aO3{b o:Nat}{a:Nd}{l r:Tr}(T:Ws 0 (.node b o a l r))(R:aUI H (.node b o a l r))(X:(ps (.node b o a l r)).Nodup)(C:a.a=2\/a.a=4\/a.a=5\/a.a=6->Ws 0 l/\GN 195 H O N I U Z F its bCH l)(S:a.a=6->Ws 0 r/\GN 195 H O N I U Z F its bCH r)(f:a.a=3->GN 249 H O N I U Z F its cB (.node b o a l r)):GN 195 H O N I U Z F its bCH (.node b o a l r):=by
 intro s w h hi;obtain⟨y4,sx,sy,K,y3,y2⟩:=T.parts;have hn:a.h.size<=maxLen:=by have:=y4.h;unfold maxLen;omega
 have Y:a.a < 7:=by
  rcases Qt a.a 7 with h|h
  ·exact h
  ·exfalso;unfold sig at K;rw[if_pos rfl]at K;rw[Oh,Oh,Oh,Oh,Oh]at K;cases K
 have L:a.a=0\/a.a=1->l= .nil:=fun h=>by
  have:sx=99:=by rcases h with h|h<;>rw[h]at K<;>cases K<;>rfl
  subst this;exact y3.nil_of
 have x:a.a≠6->r= .nil:=fun h=>by
  have:sy=99:=by
   have d:a.a=0\/a.a=1\/a.a=2\/a.a=3\/a.a=4\/a.a=5:=Oa
   rcases d with d|d|d|d|d|d<;>rw[d]at K<;>cases K<;>rfl
  subst this;exact y2.nil_of
 have y7:H<=b:=R.2.2 (by unfold gY;omega);have i:=hi.2.2;have E:=dZ X;have D: ¬(a.a=9/\a.flag=true):=fun h=>Oa
 rw[mL D,jM D];have hv:bCH (.node b o a l r)= .iface (bZ a.a) (Qd b):=Oh;rw[hv];clear hv K;have t1:=fun u G=>oD u G w;have t2:=fun u G=>pT u G w;have t3:=fun u G=>xL u G w;have t4:=fun u G=>mX u G w;have t5:=fun u G=>rP u G w;have t6:=fun u G=>rQ u G w
 by_cases k:a.a=1
 ·obtain rfl:=L (.r k);obtain rfl:=x Oa;have hs:rs1 F its a (aD .nil) s=s.oldVar a.h a.b:=by simp[rs1,k]
  have W:wh1 F its a (aD .nil) s=(bCK a.h s.b).getD 0:=by simp[wh1,k]
  rw[hs,W];have HS:Hid (Own w b a .nil .nil):=i;have hN:=rX i y7 (.l k);have v:Hid (a.a=1):=k;rw[show bZ a.a=359 by rw[k];rfl];clear L x C S f i k hs W D Y E X hi y3 y2 R T;go_enter func195,ntmps195
  go_wp2_with fail
  refine(yP w h.rs hN hn).mono ?_;rintro e Q ⟨rfl,d,y,a1⟩;go_wp2;go_end0
  exact⟨rfl,d,⟨trivial,trivial,tH HS.o (.l v.o) a1⟩,y.mono Po.to⟩
 by_cases m:a.a=2
 ·obtain rfl:=x Oa;have hs:rs1 F its a (aD l) s=s.P F its a.h a.b:=by simp[rs1,m]
  have W:wh1 F its a (aD l) s=fL F its a.h a.c:=by simp[wh1,m]
  rw[hs,W];have hN:=rX i y7 (.r (.l m));obtain⟨J,B⟩:=C (.l m);obtain⟨u,p,k9⟩:=J.g Oy;have HL:Hid (GN 195 H O N I U Z F its bCH l):=B;have v:Hid (a.a=2):=m;have A:Hid (Uq a l .nil):=E;have HI:Hid (IsT w (.node b o a l .nil)):=hi;rw[show bZ a.a=393 by rw[m];rfl];clear L x C S f i k m B hs W D Y E X hi R T;go_enter func195,ntmps195
  go_wp2_with fail
  refine(sW w h hN hn).mono ?_;rintro e Q ⟨rfl,d,y,a1⟩;have i2:IsT Q l:=IsT.fr y (fun t p q=>(Po.body t p q).e) J HI.o.1 (Po.o A.o.own_l);have o2:=tH HI.o.2.2 (.r (.l v.o)) a1
  have m3:Q.cell? ⟨b,3,none⟩=some (bCH l):=by
   obtain⟨cs,f,_,j,_⟩:=aI o2 (n:=2) v.o;rw[cell_of_row _ _ _ _ _ _ f];exact j
  have g:=HL.o _ _ (h.fr d y Po.body) i2;rw[k9]at m3 g;have y9:Hid (Own Q b {a with c:=fL F its a.h a.c} l .nil):=o2;clear o2 a1;go_wp2_with fail
  refine g.mono ?_;rintro e W3 ⟨rfl,j,i3,z⟩;go_wp2;go_end0
  have o3:=cX y9.o z Pt.body (fun p q ty M=>A.o.own_l p q M.2) (by have:=v.o;show a.a≠20;omega);exact⟨rfl,j,⟨i3,trivial,gZ o3 (dJ _ _ _ _) (Sh.refl _)⟩,(y.mono Po.to).t (z.mono Pt.left)⟩
 by_cases P:a.a=3
 ·have g:=f P s w h hi;rw[mL D,jM D]at g;have y0:Calls prog 249 #[Qd N,Qd b] w _:=g;rw[show bZ a.a=396 by rw[P];rfl];clear L x C S f i k m P g D Y E X hi y3 y2 R T;go_enter func195,ntmps195
  go_wp2_with fail
  refine y0.mono ?_;rintro e Q ⟨rfl,d,i2,y⟩;go_wp2;go_end0
  exact⟨rfl,d,i2,y⟩
 have W:a.a≠1->a.a≠2->a.a≠3->wh1 F its a (aD l) s=a.c:=fun _ _ _=>by unfold wh1;rw[Oh,Oh,Oh]
 have y5:a.a≠1->a.a≠2->a.a≠3->rs1 F its a (aD l) s=s:=fun _ _ _=>by unfold rs1;rw[Oh,Oh,Oh,Oh]
 rw[W k m P,y5 k m P];clear W y5
 by_cases V:a.a=4
 ·obtain rfl:=x Oa;obtain⟨J,B⟩:=C (.r (.l V));obtain⟨u,p,k9⟩:=J.g Oy
  have m3:w.cell? ⟨b,0,none⟩=some (bCH l):=by
   obtain⟨cs,f,j⟩:=aI i (n:=4) V;rw[cell_of_row _ _ _ _ _ _ f];exact j
  have g:=B s w h hi.1;rw[k9]at m3 g;have v:Hid (a.a=4):=V;have A:Hid (Uq a l .nil):=E;have HO:Hid (Own w b a l .nil):=i;rw[show bZ a.a=398 by rw[V];rfl];clear L x C S f i k m P V B D Y E X hi R T;go_enter func195,ntmps195
  go_wp2_with fail
  refine g.mono ?_;rintro e W3 ⟨rfl,j,i3,z⟩;go_wp2;go_end0
  have o3:=cX HO.o z Pt.body (fun p q ty M=>A.o.own_l p q M.2) (Oi v.o);exact⟨rfl,j,⟨i3,trivial,gZ o3 (dJ _ _ _ _) (Sh.refl _)⟩,z.mono Pt.left⟩
 by_cases k5:a.a=5
 ·obtain rfl:=x Oa;obtain⟨J,B⟩:=C (.r (.r (.l k5)));obtain⟨u,p,k9⟩:=J.g Oy
  have m3:w.cell? ⟨b,0,none⟩=some (bCH l):=by
   obtain⟨cs,f,j⟩:=aI i (n:=5) k5;rw[cell_of_row _ _ _ _ _ _ f];exact j
  have g:=B s w h hi.1;rw[k9]at m3 g;have v:Hid (a.a=5):=k5;have A:Hid (Uq a l .nil):=E;have HO:Hid (Own w b a l .nil):=i;rw[show bZ a.a=401 by rw[k5];rfl];clear L x C S f i k m P V k5 B D Y E X hi R T;go_enter func195,ntmps195
  go_wp2_with fail
  refine g.mono ?_;rintro e W3 ⟨rfl,j,i3,z⟩;go_wp2;go_end0
  have o3:=cX HO.o z Pt.body (fun p q ty M=>A.o.own_l p q M.2) (Oi v.o);exact⟨rfl,j,⟨i3,trivial,gZ o3 (dJ _ _ _ _) (Sh.refl _)⟩,z.mono Pt.left⟩
 by_cases k6:a.a=6
 ·obtain⟨J,B⟩:=C (.r (.r (.r k6)));obtain⟨u,p,k9⟩:=J.g Oy;obtain⟨y1,y6⟩:=S k6;obtain⟨u2,p2,y8⟩:=y1.g Oy;have HR:Hid (GN 195 H O N I U Z F its bCH r):=y6
  have a2:∀ w',Own w' b a l r->w'.cell? ⟨b,2,none⟩=some (bCH l)/\w'.cell? ⟨b,3,none⟩=some (bCH r):=by
   intro w' ho;obtain⟨cs,f,_,_,d,j,_⟩:=aI ho (n:=6) k6;exact⟨Og f d,Og f j⟩
  have m2:=(a2 w i).1;have g:=B s w h hi.1;rw[k9]at m2 g;have v:Hid (a.a=6):=k6;have A:Hid (Uq a l r):=E;have HI:Hid (IsT w (.node b o a l r)):=hi;rw[show bZ a.a=403 by rw[k6];rfl];clear L x C S f i k m P V k5 k6 B y6 D Y E X hi R T;go_enter func195,ntmps195
  go_wp2_with fail
  refine g.mono ?_;rintro e Q ⟨rfl,d,i2,y⟩;have o2:=cX HI.o.2.2 y Pt.body (fun p q ty M=>A.o.own_l p q M.2) (Oi v.o);have j2:IsT Q r:=IsT.fr y (fun t p q=>(Pt.body t p q).e) y1 HI.o.2.1 (Pt.o A.o.apart);have m3:=(a2 Q o2).2;have h8:=HR.o _ _ (h.fr d y Pt.body) j2;rw[y8]at m3 h8;go_wp2_with fail
  refine h8.mono ?_;rintro e W3 ⟨rfl,j,i3,z⟩;go_wp2;go_end0
  have o3:=cX o2 z Pt.body (fun p q ty M=>A.o.own_r p q M.2) (Oi v.o);have l3:=bOT i2 z J (dJ _ _ _ _) A.o.apart_;exact⟨rfl,j,⟨l3,i3,gZ o3 (dJ _ _ _ _) (dJ _ _ _ _)⟩,(y.mono Pt.left).t (z.mono Pt.right)⟩
 ·have k0:a.a=0:=Oa
  obtain rfl:=L (.l k0);obtain rfl:=x Oa;rw[show bZ a.a=362 by rw[k0];rfl];clear L x C S f i k m P V k5 k6 k0 D Y E X R T;go_enter func195,ntmps195
  go_wp2;go_end0
  exact⟨rfl,h.rs,hi,Fr.refl _ _ _⟩
end Go.Proofs.YtikffmloeifkpaaGreatDoor
