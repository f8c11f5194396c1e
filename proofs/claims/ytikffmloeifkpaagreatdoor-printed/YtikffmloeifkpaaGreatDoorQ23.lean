/- Contracts. -/
import Derived.Test.YtikffmloeifkpaaGreatDoorQ22
set_option maxHeartbeats 16000000
set_option maxRecDepth 100000
namespace Go.Proofs.YtikffmloeifkpaaGreatDoor
section
open Go.RowKit Go.Lib Go.Deep Go.ChangeMaps Go.MapKept
variable {C:Cl} {vars:Nat->Int} {B pb rb fb d:Nat} {r:Rn} {w w' u:World} {value:Int} {al fl:List Tr}
theorem FmW.drew(h:FmW rb fb vars value w):FmW rb fb vars value w.drew:=h
theorem XW.drew(h:XW B pb rb fb d al fl vars value r w):XW B pb rb fb d al fl vars value r w.drew:=⟨h.rn.drew,h.fm.drew,h.pg.drew,h.bd⟩
theorem RnW.frame(h:RnW B pb rb r w)(hf:FmW rb fb vars value w)(o:Nat)(v:Value):RnW B pb rb r (w.setCell ⟨fb,o,none⟩ v):=by
 obtain⟨cs,vO,hc,h1,h2⟩:=h.ex;obtain⟨c3,h0,_⟩:=hf
 exact⟨⟨cs,vO,(Om (bEF hc h0 Ob)).trans hc,h1,cD h2 (fun k hk=>by
  obtain⟨⟨c,h3⟩,_⟩:=bEH h2 hk;exact Om (bEF h3 h0 Ob))⟩,h.ge,h.few⟩
theorem aPP{b o:Nat}{a:Nd}{l q:Tr}(ht:a.tag=9)(hC:COk C)(hv:0<=a.which/\a.which < 12)(hl:Ws 0 l/\GX 200 B pb d C al fl bCH l):GSt 201 B pb d C al fl bCH (.node b o a l q):=by
 intro rb fb vars value r w h hi;have h1:bCH (.node b o a l q)= .iface (bZ a.tag) (.pointer (some ⟨b,0,none⟩)):=Oh;rw[h1];have t1:=fun u v=>kG u v w;obtain⟨h8,h9⟩:=hl;obtain⟨u,p,h6⟩:=h8.val Ox;obtain⟨k,hk⟩:∃ k:Nat,a.which=k:=⟨a.which.toNat,Oa⟩;have h5:k < 12:=Oa
 have hkI:0<=(k:Int)/\(k:Int) < 12:=Oa
 have cellsO:∀ W:World,Own W b a l q->W.cell? ⟨b,2,none⟩=some (.int .i64 (k:Int))/\W.cell? ⟨b,3,none⟩=some (.iface u (.pointer (some p))):=fun W ho=>by
  obtain⟨cs,hc,hn,h3,_⟩:=aI ho (n:=9) ht;exact⟨by rw[cell_of_row _ _ _ _ _ _ hc,<-hk];exact hn.2.2,by rw[cell_of_row _ _ _ _ _ _ hc,<-h6];exact h3⟩
 have hX:stW (bCG al) C (.node b o a l q) ⟨true,vars,value,r⟩=⟨true,upd vars k (hd (exW (bCG al) C vars l r).1),value,(exW (bCG al) C vars l r).2⟩:=by
  conv=>lhs;unfold stW
  rw[Oh,Oh,if_pos ht,hk,Int.toNat_natCast]
 rw[hX,show bZ a.tag=326 by rw[ht];rfl];obtain⟨m2,m3⟩:=cellsO w hi.2.2;have h7:IsT w.drew (.node b o a l q):=IsT.wx h.rn (Wx.refl B rb w).drew hi;have h0:=h9 rb fb vars value r w.drew h.drew h7.1;rw[h6]at h0;have hmn:=lQ (lens:=bCG al) (vars:=vars) hC l r;generalize exW (bCG al) C vars l r=x at*;obtain⟨xl,r2⟩:=x;dsimp only at*;generalize hd xl=V at*;have HH:Hid (XW B pb rb fb d al fl vars value r w):=h;have HI:Hid (IsT w.drew (.node b o a l q)):=h7;have HO:Hid _:=cellsO
 have FIN:Hid (∀ W,RnW B pb rb r2 W->FmW rb fb vars value W->Wx B rb w.drew W->iC B pb rb fb ⟨true,upd vars k V,value,r2⟩ w (.returned (.bool true)) (W.setCell ⟨fb,1+k,none⟩ (.int .i64 V))):=fun W h2 f2 x2=>by
  rw[show 1+k=k+1 by omega];exact⟨rfl,h2.frame f2 _ _,f2.setVar h5 V,((Wx.refl B rb w).drew.trans x2).y.set _ _⟩
 have k0:b≠fb:=by
  obtain⟨cs,hc,_⟩:=aI hi.2.2 (n:=9) ht;obtain⟨c3,k1,_⟩:=h.fm;exact bEF hc k1 Ob
 clear h hi h7 cellsO h9 h8 hX h1 hk hv ht h6;go_enter Tryz.func201,Tryz.ntmps201
 go_wp2_with fail
 go_region_held3 (fun w'=>w'.cell? ⟨b,2,none⟩=some (.int .i64 k)/\w'.cell? ⟨b,3,none⟩=some (.iface u (.pointer (some p))))
  (first
    |(refine⟨?_,?_⟩<;>assumption)
    |(exact⟨(Qf (Om k0)).trans p2,(Qf (Om k0)).trans p3⟩)
    |go_keep)
  ((refine eC rfl 200 #[.pointer (some ⟨fb,0,none⟩),.iface u (.pointer (some p))] _ (by go_simp) h0 ?_;rintro e W4 ⟨rfl,h4,x4⟩;refine⟨_,rfl,?_⟩;have i4:IsT W4 (.node b o a l q):=IsT.wx HH.out.rn.drew x4 HI.out;obtain⟨p2,p3⟩:=HO.out W4 i4.2.2;have f4:=HH.out.fm.drew.wx x4 (HH.out.fm.ne HH.out.rn);have k2:Hid _:=FIN.out W4 h4 f4 x4;obtain⟨_,_,mv,mz⟩:=f4.cells;have mk:=mv k h5;rw[Nat.add_comm]at mk;clear h4 x4 i4 f4 mv))
 all_goals go_wp2
 all_goals go_ret
 all_goals exact⟨rfl,k2.out.2⟩
theorem aLM{b o:Nat}{a:Nd}{l q:Tr}(ht:a.tag=10)(hC:COk C)(hk:0<=a.which/\a.which < al.length)(hl:Ws 0 l/\GX 200 B pb d C al fl bCH l)(hq:Ws 0 q/\GX 200 B pb d C al fl bCH q):GSt 201 B pb d C al fl bCH (.node b o a l q):=by
 intro rb fb vars value r w h hi;have h0:bCH (.node b o a l q)= .iface (bZ a.tag) (.pointer (some ⟨b,0,none⟩)):=Oh;rw[h0];have t1:=fun u v=>kG u v w;have t2:=fun u v=>gN u v w
 have hX:stW (bCG al) C (.node b o a l q) ⟨true,vars,value,r⟩=⟨true,vars,value,aA9 (bCG al) a.which (hd (exW (bCG al) C vars l r).1) (hd (exW (bCG al) C vars q (exW (bCG al) C vars l r).2).1) a.site (exW (bCG al) C vars q (exW (bCG al) C vars l r).2).2⟩:=by
  conv=>lhs;unfold stW
  rw[Oh,Oh,Oh,if_pos ht];unfold aA9
  split<;>rfl
 rw[hX,show bZ a.tag=329 by rw[ht];rfl];have h1:=aPO ht hC hk hl hq vars value r w h hi;have HF:Hid (FmW rb fb vars value w/\fb≠rb):=⟨h.fm,h.fm.ne h.rn⟩;generalize aA9 (bCG al) a.which (hd (exW (bCG al) C vars l r).1) (hd (exW (bCG al) C vars q (exW (bCG al) C vars l r).2).1) a.site (exW (bCG al) C vars q (exW (bCG al) C vars l r).2).2=r3 at*;clear h hi hX h0 hl hq ht hk;go_enter Tryz.func201,Tryz.ntmps201
 go_wp2_with fail
 refine h1.mono ?_;rintro e W2 ⟨rfl,h2,x2⟩;have fin:Hid (iC B pb rb fb ⟨true,vars,value,r3⟩ w (.returned (.bool true)) W2):=⟨rfl,h2,HF.out.1.wx x2 HF.out.2,x2.y⟩;clear h2 x2;go_wp2;go_ret;exact fin.out
theorem aLL{b o:Nat}{a:Nd}{l:Tr}{x y:Nat}{z:Nd}{p q:Tr}(ht:a.tag=11)(hC:COk C)(hl:Ws 1 l/\GB 257 B pb d C al fl bCH l)(hp:Ws 4 p/\GSt 132 B pb d C al fl bCH p)(hq:Ws 4 q/\GSt 132 B pb d C al fl bCH q):GSt 201 B pb d C al fl bCH (.node b o a l (.node x y z p q)):=by
 intro rb fb vars value r w h hi;have h6:bCH (.node b o a l (.node x y z p q))= .iface (bZ a.tag) (.pointer (some ⟨b,0,none⟩)):=Oh;rw[h6];have t1:=fun u v=>kG u v w;have t2:=fun u v=>gN u v w;have t3:=fun u v=>pB u v w;obtain⟨k9,k6⟩:=hl;obtain⟨k8,k5⟩:=hp;obtain⟨k7,k4⟩:=hq;obtain⟨u,pp,h9⟩:=k9.val Ow;obtain⟨ao,cp,h8⟩:=k8.lstval Ow;obtain⟨ao2,cp2,h7⟩:=k7.lstval Ow
 have own2:∀ w',Own w' b a l (.node x y z p q)->w'.cell? ⟨b,0,none⟩=some (.iface u (.pointer (some pp)))/\w'.cell? ⟨b,1,none⟩=some (.slice ao (aD p) cp)/\w'.cell? ⟨b,2,none⟩=some (.slice ao2 (aD q) cp2):=by
  intro w' ho;obtain⟨cs,hc,h0,x',y',z',p',q',e,h1,h2⟩:=aI ho (n:=11) ht;simp only[BT.node.injEq]at e;obtain⟨rfl,rfl,rfl,rfl,rfl⟩:=e;exact⟨by rw[cell_of_row _ _ _ _ _ _ hc,<-h9];exact h0,by rw[cell_of_row _ _ _ _ _ _ hc,<-h8];exact h1,by rw[cell_of_row _ _ _ _ _ _ hc,<-h7];exact h2⟩
 have hX:stW (bCG al) C (.node b o a l (.node x y z p q)) ⟨true,vars,value,r⟩=if(cdW (bCG al) C vars l r).1 then stW (bCG al) C p ⟨true,vars,value,(cdW (bCG al) C vars l r).2⟩else stW (bCG al) C q ⟨true,vars,value,(cdW (bCG al) C vars l r).2⟩:=by
  conv=>lhs;unfold stW
  rw[Oh,Oh,Oh,Oh,if_pos ht]
 rw[hX,show bZ a.tag=332 by rw[ht];rfl];have h4:=k6 rb fb vars value r w h hi.1;rw[h9]at h4;have k3:=zZ (lens:=bCG al) (vars:=vars) hC l r;have HH:Hid (XW B pb rb fb d al fl vars value r w):=h;have HI:Hid (IsT w (.node b o a l (.node x y z p q))):=hi;obtain⟨m0,_,_⟩:=own2 w hi.2.2;have HO:Hid _:=own2
 have HP:Hid (∀ r' W,XW B pb rb fb d al fl vars value r' W->IsT W p->Calls Tryz.prog 132 #[.pointer (some ⟨fb,0,none⟩),.slice ao (aD p) cp] W (iC B pb rb fb (stW (bCG al) C p ⟨true,vars,value,r'⟩) W)):=fun r' W hW h2=>by
  have:=k5 rb fb vars value _ W hW h2;rw[h8]at this;exact this
 have HQ:Hid (∀ r' W,XW B pb rb fb d al fl vars value r' W->IsT W q->Calls Tryz.prog 132 #[.pointer (some ⟨fb,0,none⟩),.slice ao2 (aD q) cp2] W (iC B pb rb fb (stW (bCG al) C q ⟨true,vars,value,r'⟩) W)):=fun r' W hW h2=>by
  have:=k4 rb fb vars value _ W hW h2;rw[h7]at this;exact this
 generalize cdW (bCG al) C vars l r=x at*;obtain⟨c,r2⟩:=x;dsimp only at*;clear h hi own2 k6 k5 k4 hX h6 ht h9 h8 h7;cases c
 ·rw[if_neg Ob];go_enter Tryz.func201,Tryz.ntmps201
  go_wp2_with fail
  refine h4.mono ?_;rintro e W2 ⟨rfl,h2,x2⟩;have i2:=IsT.wx HH.out.rn x2 HI.out;obtain⟨_,_,k2⟩:=HO.out W2 i2.2.2;have h5:=HQ.out _ W2 (HH.out.wx h2 x2 k3) i2.2.1.2.1;have k0:Hid _:=x2;generalize stW (bCG al) C q ⟨true,vars,value,r2⟩=M at*;clear h2 x2 i2 h4;go_wp2_with fail
  refine h5.mono ?_;rintro e W3 ⟨rfl,h3,f3,y3⟩;have fin:Hid (iC B pb rb fb M w (.returned (.bool M.on)) W3):=⟨rfl,h3,f3,k0.out.y.trans y3⟩;clear h3 f3 y3;go_wp2;go_ret;exact fin.out
 ·rw[if_pos rfl];go_enter Tryz.func201,Tryz.ntmps201
  go_wp2_with fail
  refine h4.mono ?_;rintro e W2 ⟨rfl,h2,x2⟩;have i2:=IsT.wx HH.out.rn x2 HI.out;obtain⟨_,k1,_⟩:=HO.out W2 i2.2.2;have h5:=HP.out _ W2 (HH.out.wx h2 x2 k3) i2.2.1.1;have k0:Hid _:=x2;generalize stW (bCG al) C p ⟨true,vars,value,r2⟩=M at*;clear h2 x2 i2 h4;go_wp2_with fail
  refine h5.mono ?_;rintro e W3 ⟨rfl,h3,f3,y3⟩;have fin:Hid (iC B pb rb fb M w (.returned (.bool M.on)) W3):=⟨rfl,h3,f3,k0.out.y.trans y3⟩;clear h3 f3 y3;go_wp2;go_ret;exact fin.out
theorem aLK{b o:Nat}{a:Nd}{l q:Tr}(ht:a.tag=12)(hG:GSt 258 B pb d C al fl cB (.node b o a l q)):GSt 201 B pb d C al fl bCH (.node b o a l q):=by
 intro rb fb vars value r w h hi;have h1:bCH (.node b o a l q)= .iface (bZ a.tag) (.pointer (some ⟨b,0,none⟩)):=Oh;rw[h1];have t1:=fun u v=>kG u v w;have t2:=fun u v=>gN u v w;have t3:=fun u v=>pB u v w;have t4:=fun u v=>iG u v w;rw[show bZ a.tag=338 by rw[ht];rfl];have h0:=hG rb fb vars value r w h hi;have h0:Calls Tryz.prog 258 #[.pointer (some ⟨fb,0,none⟩),.pointer (some ⟨b,0,none⟩)] w _:=h0;generalize stW (bCG al) C (.node b o a l q) ⟨true,vars,value,r⟩=M at*;clear h hi h1 ht hG;go_enter Tryz.func201,Tryz.ntmps201
 go_wp2_with fail
 refine h0.mono ?_;rintro e W3 ⟨rfl,h3,f3,y3⟩;have fin:Hid (iC B pb rb fb M w (.returned (.bool M.on)) W3):=⟨rfl,h3,f3,y3⟩;clear h3 f3 y3;go_wp2;go_ret;exact fin.out
theorem aLJ{b o:Nat}{a:Nd}{l q:Tr}(ht:a.tag=13)(hl:Ws 0 l/\GX 200 B pb d C al fl bCH l):GSt 201 B pb d C al fl bCH (.node b o a l q):=by
 intro rb fb vars value r w h hi;have h3:bCH (.node b o a l q)= .iface (bZ a.tag) (.pointer (some ⟨b,0,none⟩)):=Oh;rw[h3];have t1:=fun u v=>kG u v w;have t2:=fun u v=>gN u v w;have t3:=fun u v=>pB u v w;have t4:=fun u v=>iG u v w;have t5:=fun u v=>iL u v w;obtain⟨h6,h5⟩:=hl;obtain⟨u,p,h4⟩:=h6.val Ox
 have m0:w.cell? ⟨b,0,none⟩=some (.iface u (.pointer (some p))):=by
  obtain⟨cs,hc,h0⟩:=aI hi.2.2 (n:=13) ht;rw[cell_of_row _ _ _ _ _ _ hc,<-h4];exact h0
 have hX:stW (bCG al) C (.node b o a l q) ⟨true,vars,value,r⟩=⟨false,vars,hd (exW (bCG al) C vars l r).1,(exW (bCG al) C vars l r).2⟩:=by
  conv=>lhs;unfold stW
  rw[Oh,Oh,Oh,Oh,Oh,Oh,if_pos ht]
 rw[hX,show bZ a.tag=341 by rw[ht];rfl];have h1:=h5 rb fb vars value r w h hi.1;rw[h4]at h1;generalize exW (bCG al) C vars l r=x at*;obtain⟨xl,r2⟩:=x;dsimp only at*;generalize hd xl=V at*;have HF:Hid (FmW rb fb vars value w/\fb≠rb):=⟨h.fm,h.fm.ne h.rn⟩;clear h hi h5 hX h3 ht h4;go_enter Tryz.func201,Tryz.ntmps201
 go_wp2_with fail
 refine h1.mono ?_;rintro e W2 ⟨rfl,h2,x2⟩;have f2:=HF.out.1.wx x2 HF.out.2;obtain⟨_,v2,_,z2⟩:=f2.cells;have fin:Hid (iC B pb rb fb ⟨false,vars,V,r2⟩ w (.returned (.bool false)) (W2.setCell ⟨fb,13,none⟩ (.int .i64 V))):=⟨rfl,h2.frame f2 _ _,f2.setValue V,x2.y.set _ _⟩;clear h2 x2 f2;go_wp2;go_ret;exact fin.out
theorem aLI{b o:Nat}{a:Nd}{l q:Tr}(ht:a.tag=14)(hC:COk C)(hl:Ws 0 l/\GX 200 B pb d C al fl bCH l):GSt 201 B pb d C al fl bCH (.node b o a l q):=by
 intro rb fb vars value r w h hi;have h5:bCH (.node b o a l q)= .iface (bZ a.tag) (.pointer (some ⟨b,0,none⟩)):=Oh;rw[h5];have t1:=fun u v=>kG u v w;have t2:=fun u v=>gN u v w;have t3:=fun u v=>pB u v w;have t4:=fun u v=>iG u v w;have t5:=fun u v=>iL u v w;have t6:=fun u v=>pR u v w;obtain⟨h9,h8⟩:=hl;obtain⟨u,p,h6⟩:=h9.val Ox
 have m0:w.cell? ⟨b,0,none⟩=some (.iface u (.pointer (some p))):=by
  obtain⟨cs,hc,h0⟩:=aI hi.2.2 (n:=14) ht;rw[cell_of_row _ _ _ _ _ _ hc,<-h6];exact h0
 have hX:stW (bCG al) C (.node b o a l q) ⟨true,vars,value,r⟩=⟨true,vars,value,(exW (bCG al) C vars l r).2.out (hd (exW (bCG al) C vars l r).1)⟩:=by
  conv=>lhs;unfold stW
  rw[Oh,Oh,Oh,Oh,Oh,Oh,Oh,if_pos ht]
 rw[hX,show bZ a.tag=344 by rw[ht];rfl];have h1:=h8 rb fb vars value r w h hi.1;rw[h6]at h1;have k0:=lQ (lens:=bCG al) (vars:=vars) hC l r;generalize exW (bCG al) C vars l r=x at*;obtain⟨xl,r2⟩:=x;dsimp only at*;generalize hd xl=V at*;have HH:Hid (XW B pb rb fb d al fl vars value r w):=h;clear h hi h8 hX h5 ht h6;go_enter Tryz.func201,Tryz.ntmps201
 go_wp2_with fail
 refine h1.mono ?_;rintro e W2 ⟨rfl,h2,x2⟩;have X2:=HH.out.wx h2 x2 k0;have h4:=aTX V W2 X2;have h7:Hid _:=X2;have k1:Hid _:=x2;generalize r2.out V=r3 at*;clear h2 x2 X2 h1;go_wp2_with fail
 refine h4.mono ?_;rintro e W3 ⟨rfl,h3,x3⟩;have fin:Hid (iC B pb rb fb ⟨true,vars,value,r3⟩ w (.returned (.bool true)) W3):=⟨rfl,h3,h7.out.fm.wx x3 (h7.out.fm.ne h7.out.rn),(k1.out.trans x3).y⟩;clear h3 x3;go_wp2;go_ret;exact fin.out
end
section
open Go.RowKit Go.Lib Go.Deep Go.ChangeMaps Go.MapKept
variable {C:Cl} {vars:Nat->Int} {B pb rb fb d:Nat} {r:Rn} {w w' u:World} {value:Int} {al fl:List Tr} {lens:Nat->Int}
def enD(lens:Nat->Int)(fl:List Tr):Nat->Tr->(Nat->Int)->Rn->Int × Rn
 |0,e,vars,r=>enW (fun _ m=>m) e vars r
 |d+1,e,vars,r=>enW (stW lens (clW lens fl d)) e vars r
theorem aTC(k:Int)(l:List Int)(s:Int)(r:Rn):clW lens fl d k l s r=enD lens fl d (fl.getD k.toNat .nil) (cI l) (if tkW (cI l) (aU (fl.getD k.toNat .nil))then r else r.trap s):=by cases d<;>rfl
def aRZ(B pb rb fb:Nat)(x:Int × Rn)(w:World):Ending->World->Prop:=fun e w'=>e= .returned (.int .i64 x.1)/\RnW B pb rb x.2 w'/\Wy B rb fb w w'
def GE(B pb d:Nat)(al fl:List Tr)(e:Tr):Prop:=
 ∀ rb fb cb vars r w,XW B pb rb fb d al fl vars 0 r w->IsT w (bG e)->At w cb 105 (fun cs=>cs[5]?=some (bCH (bG e)))->Calls Tryz.prog 79 #[.pointer (some ⟨fb,0,none⟩),.pointer (some ⟨cb,0,none⟩)] w (aRZ B pb rb fb (enD (bCG al) fl d e vars r) w)
theorem aEX{Bd:Tr->Fm->Fm}{e:Tr}{r0:Rn}(h0:r0=(if r.calls=60 then r.stop 4 else r))(hb:({r0 with calls:=r.calls+1}:Rn).burns=false):enW Bd e vars r=(0,{({r0 with calls:=r.calls+1}:Rn).burn with calls:=({r0 with calls:=r.calls+1}:Rn).burn.calls - 1}):=by
 unfold enW;dsimp only;rw[<-h0,if_neg (by rw[hb];decide)]
theorem aT5{Bd:Tr->Fm->Fm}{e:Tr}(h0:r.calls≠60)(hb:({r with calls:=r.calls+1}:Rn).burns=true):enW Bd e vars r=((Bd (bG e) ⟨true,vars,0,({r with calls:=r.calls+1}:Rn).burn⟩).value,{(Bd (bG e) ⟨true,vars,0,({r with calls:=r.calls+1}:Rn).burn⟩).run with calls:=(Bd (bG e) ⟨true,vars,0,({r with calls:=r.calls+1}:Rn).burn⟩).run.calls - 1}):=by
 unfold enW;dsimp only;rw[if_neg h0,if_pos hb]
theorem aI4{e:Tr}(hw:Ws 4 (bG e))(hC:∀ d',COk (clW (bCG al) fl d'))(hB:∀ d',d=d'+1->GSt 132 B pb d' (clW (bCG al) fl d') al fl bCH (bG e)):GE B pb d al fl e:=by
 intro rb fb cb vars r w h hi hF;obtain⟨r0,h0⟩:∃ r0,r0=(if r.calls=60 then r.stop 4 else r):=⟨_,rfl⟩
 by_cases h1:({r0 with calls:=r.calls+1}:Rn).burns=false
 ·have e1:enD (bCG al) fl d e vars r=(0,{({r0 with calls:=r.calls+1}:Rn).burn with calls:=({r0 with calls:=r.calls+1}:Rn).burn.calls - 1}):=by
   cases d with
   |zero=>exact aEX (e:=e) (Bd:=fun _ m=>m) h0 h1
   |succ d=>exact aEX (e:=e) (Bd:=stW (bCG al) (clW (bCG al) fl d)) h0 h1
  rw[e1];refine(aO8 (cb:=cb) r0 h0 h1 w h).mono ?_;rintro E w' ⟨rfl,h2,x2⟩;exact⟨rfl,h2,x2.y⟩
 ·have h3:r.calls≠60:=by
   intro h3;apply h1;rw[h0,if_pos h3];unfold Rn.burns;have:(r.stop 4).fin≠0:=aDD 4 Ob;simp[this]
  rw[if_neg h3]at h0;subst h0;have hb:({r0 with calls:=r0.calls+1}:Rn).burns=true:=by simpa using h1
  have hf:r0.fuel≠0:=by
   unfold Rn.burns at hb;simp only[Bool.and_eq_true,decide_eq_true_eq]at hb;exact hb.1
  cases d with
  |zero=>exact absurd h.bd.fuel Oa
  |succ d=>
   have e1:enD (bCG al) fl (d+1) e vars r0=((stW (bCG al) (clW (bCG al) fl d) (bG e) ⟨true,vars,0,({r0 with calls:=r0.calls+1}:Rn).burn⟩).value,{(stW (bCG al) (clW (bCG al) fl d) (bG e) ⟨true,vars,0,({r0 with calls:=r0.calls+1}:Rn).burn⟩).run with calls:=(stW (bCG al) (clW (bCG al) fl d) (bG e) ⟨true,vars,0,({r0 with calls:=r0.calls+1}:Rn).burn⟩).run.calls - 1}):=aT5 h3 hb;rw[e1];refine(aKG (cb:=cb) h3 hb hw (hB d rfl) (stW (bCG al) (clW (bCG al) fl d) (bG e) ⟨true,vars,0,({r0 with calls:=r0.calls+1}:Rn).burn⟩) rfl ((aBQ (hC d) _ _ Ol).2 (.inl hw) ⟨true,vars,0,({r0 with calls:=r0.calls+1}:Rn).burn⟩) w h hi hF).mono ?_;rintro E w' ⟨rfl,h2,x2⟩;exact⟨rfl,h2,x2⟩
theorem aT1:∀ (t:Tr),Ws 0 t->∀ r,(exW lens C vars t r).1=[hd (exW lens C vars t r).1]:=by
 intro t
 induction t with
 |nil=>intro h;exact absurd h (by unfold Ws bK;omega)
 |node b o a l q ihl _=>
  intro hw r;obtain⟨_,sx,sy,h0,h1,_⟩:=hw.parts
  have ht:a.tag < 7:=by
   rcases Qk a.tag 7 with h|h
   ·exact h
   ·exfalso;unfold sig at h0;rw[if_pos rfl]at h0;rw[Oh,Oh,Oh,Oh,Oh]at h0;cases h0
  unfold exW
  split
  ·rfl
  split
  ·rfl
  split
  ·split<;>rfl
  split
  ·rfl
  split
  ·rename_i h;have h4:a.tag=4:=Oa
   rw[h4]at h0;cases h0;exact ihl h1 r
  split
  ·rfl
  split
  ·split<;>rfl
  ·exfalso;omega
theorem aQY{t:Tr}(h:Ws 3 t):exW lens C vars t r=exW lens C vars (bCF t) r:=by
 rcases h.lst (.inl rfl)with rfl|⟨b,o,a,l,rfl,ht,_⟩
 ·rfl
 ·show(if a.tag=0 then _ else _)=_;rw[Oh,Oh,Oh,Oh,if_pos (.inr ht)];rfl
theorem aQZ{b o:Nat}{a:Nd}{e q:Tr}(h0:a.tag=15):exW lens C vars (.node b o a e q) r=((exW lens C vars e r).1++(exW lens C vars q (exW lens C vars e r).2).1,(exW lens C vars q (exW lens C vars e r).2).2):=by
 show(if a.tag=0 then _ else _)=_;rw[Oh,Oh,Oh,Oh,Oh,Oh,Oh,if_pos h0]
theorem aGX(vs:List Int)(v:Int):upd (cI vs) vs.length v=cI (vs++[v]):=by
 funext j
 unfold upd cI;simp only[List.getD_eq_getElem?_getD,List.getElem?_append]
 by_cases h:j=vs.length
 ·subst h;simp
 ·by_cases h2:j < vs.length
  ·rw[if_neg h,if_pos h2]
  ·rw[if_neg h,if_neg h2,List.getElem?_eq_none Oa,List.getElem?_eq_none (by simp only[List.length_cons,List.length_nil];omega)]
theorem Wx.setNew(h:Wx B rb w w'){c o:Nat}(hc:w.heap.size<=c)(v:Value):Wx B rb w (w'.setCell ⟨c,o,none⟩ v):=
 ⟨h.os,h.tape,h.output,Qd h.size (by simp[World.setCell]),fun k h1 h2 h3=>(Om (by show k≠c;omega)).trans (h.low k h1 h2 h3),fun k cs t h1 h2 h3=>(Om (by have:=(Oo h1);show k≠c;omega)).trans (h.block k cs t h1 h2 h3)⟩
theorem Wx.y'(h:Wx B rb w w')(fb:Nat):Wy B rb fb w w':=h.y
theorem RnW.alloc(h:RnW B pb rb r w)(o:Obj):RnW B pb rb r (w.alloc o):=by
 obtain⟨cs,vO,hc,h1,h2⟩:=h.ex
 exact⟨⟨cs,vO,(On (Oo hc)).trans hc,h1,cD h2 (fun k hk=>by
  obtain⟨⟨c,h0⟩,_⟩:=bEH h2 hk;exact On (Oo h0))⟩,h.ge,h.few⟩
end
section
open Go.RowKit Go.Lib Go.Deep Go.ChangeMaps Go.MapKept
variable {vars:Nat->Int} {B pb rb fb d:Nat} {r:Rn} {w w' u:World} {value:Int} {al fl:List Tr}
structure LpC(B pb rb:Nat)(al:List Tr)(C:Cl)(vars:Nat->Int)(L:Tr)(T:List Int × Rn)(r:Rn)(w:World)(i:Nat)(vs:List Int)(r':Rn)(wr:World):Prop where
 res:T=(vs++(exW (bCG al) C vars (aL i L) r').1,(exW (bCG al) C vars (aL i L) r').2)
 len:vs.length=i
 rn:RnW B pb rb r' wr
 fm:FmW rb w.heap.size (cI vs) 0 wr
 wx:Wx B rb w wr
 mn:Mn r r'
theorem aTD{b o:Nat}{a:Nd}{l q:Tr}{C:Cl}(j7:C=clW (bCG al) fl d)(ht:a.tag=3)(k3:Ws 3 l)(hC:COk C){j:Nat}{e0:Tr}(hj:a.which=j)(he:fl[j]?=some e0)(hlen:aD l<=4)(hA:fE (fun e=>Ws 0 e/\GX 200 B pb d C al fl bCH e) (bCF l))(d1:Ws 5 (aU e0))(hT:fE (fun x=>Ws 20 x/\GB 130 B pb d C al fl cB x) (bCF (aU e0)))(hE:GE B pb d al fl e0):GX 254 B pb d C al fl cB (.node b o a l q):=by
 intro rb fb vars value r w h hi;obtain⟨ao,cp,j0⟩:=k3.lstval Ox
 have hjl:j < fl.length:=by
  rcases Qk j fl.length with h|h
  ·exact h
  ·rw[List.getElem?_eq_none h]at he;cases he
 have hjI:0<=(j:Int)/\(j:Int) < (fl.length:Int):=Oa
 have cellsO:∀ W:World,Own W b a l q->W.cell? ⟨b,2,none⟩=some (.int .i64 (j:Int))/\W.cell? ⟨b,3,none⟩=some (.slice ao (aD l) cp)/\W.cell? ⟨b,4,none⟩=some (.int .i64 a.site):=fun W ho=>by
  obtain⟨cs,hc,hn,h3,h4⟩:=aI ho (n:=3) ht;exact⟨by rw[cell_of_row _ _ _ _ _ _ hc,<-hj];exact hn.2.2,by rw[cell_of_row _ _ _ _ _ _ hc,<-j0];exact h3,Og hc h4⟩
 obtain⟨T,z0⟩:∃ T,T=exW (bCG al) C vars (bCF l) r:=⟨_,rfl⟩
 have hX:exW (bCG al) C vars (.node b o a l q) r=([(C (j:Int) T.1 a.site T.2).1],(C (j:Int) T.1 a.site T.2).2):=by
  rw[z0,<-aQY k3,<-hj];show(if a.tag=0 then _ else _)=_;rw[Oh,Oh,Oh,if_pos ht]
 rw[hX]
 have y0:∀ vs r',T=(vs,r')->C (j:Int) T.1 a.site T.2=enD (bCG al) fl d e0 (cI vs) (if tkW (cI vs) (aU e0)then r' else r'.trap a.site):=fun vs r' e=>by
  have e1:fl.getD (j:Int).toNat .nil=e0:=by rw[List.getD_eq_getElem?_getD,Int.toNat_natCast,he];rfl
  rw[j7,aTC,e,e1]
 show Calls Tryz.prog 254 #[.pointer (some ⟨fb,0,none⟩),.pointer (some ⟨b,0,none⟩)] w (aBK B pb rb (C (j:Int) T.1 a.site T.2).1 (C (j:Int) T.1 a.site T.2).2 w);generalize hR:C (j:Int) T.1 a.site T.2=R at*;obtain⟨o1,ho⟩:∃ o1:Obj,o1= .cells #[.pointer (some ⟨rb,0,none⟩),.int .i64 0,.int .i64 0,.int .i64 0,.int .i64 0,.int .i64 0,.int .i64 0,.int .i64 0,.int .i64 0,.int .i64 0,.int .i64 0,.int .i64 0,.int .i64 0,.int .i64 0] 165:=⟨_,rfl⟩
 have kp:∀ {p:Addr} {v:Value},w.cell? p=some v->(w.alloc o1).cell? p=some v:=fun {p v} hc=>by
  have hl:=Qg w _ hc;exact(Qf (On hl)).trans hc
 obtain⟨_,m3,_⟩:=cellsO w hi.2.2;have n3:=kp m3;obtain⟨f0,_,_,_⟩:=h.fm.cells;have g0:=kp f0
 have L0:LpC B pb rb al C vars (bCF l) T r w 0 [] r (w.alloc o1):=by
  refine⟨by rw[z0];rfl,rfl,h.rn.alloc o1,⟨_,by rw[ho];exact Qb w _,rfl,fun i hi=>?_,rfl⟩,(Wx.refl _ _ _).alloc o1,Mn.refl _⟩;have:i=0\/i=1\/i=2\/i=3\/i=4\/i=5\/i=6\/i=7\/i=8\/i=9\/i=10\/i=11:=Oa
  rcases this with rfl|rfl|rfl|rfl|rfl|rfl|rfl|rfl|rfl|rfl|rfl|rfl<;>rfl
 have HH:Hid (XW B pb rb fb d al fl vars value r w):=h;have HI:Hid (IsT w (.node b o a l q)):=hi;have HO:Hid _:=cellsO;have d5:Hid (Ws 3 l):=k3;have d7:Hid _:=y0;have HWD:Hid (Ws 13 (bCF l)):=k3.elems Ox;have hb:=h.fm.ne h.rn;clear y0 hR hX z0 cellsO kp h hi k3 j7 hb hj ht;go_enter Tryz.func254,Tryz.ntmps254
 go_upto_region 2 with fail
 rw[<-ho];clear ho;generalize w.alloc o1=w1 at*;go_wp2_with fail
 go_loopg [19] (aD l) (fun m v wr=>∃ (i:Nat) (vs:List Int) (r':Rn),v= .int .i64 i/\i<=aD l/\aD l<=i+m/\LpC B pb rb al C vars (bCF l) T r w i vs r' wr)
 case atStart=>exact⟨0,[],r,rfl,Qe _,Oa,L0⟩
 case round=>
  clear L0;obtain⟨i,vs,r',rfl,hle,hm,LP⟩:=hrel
  by_cases d4:i < aD l
  ·have y8:(i:Int) < (aD l:Int):=Oa
   have hiI:0<=(i:Int)/\(i:Int) < 12:=Oa
   obtain⟨b2,o2,a2,e2,r2,k8,j5⟩:=dK i (bCF l) (by rw[<-aT];exact d4);have j8:=fE.drop i _ hA;rw[k8]at j8;obtain⟨j9,⟨y1,hG⟩,_⟩:=j8;have iw:IsT wr l:=IsT.wx HH.out.rn LP.wx HI.out.1
   obtain⟨gg,rfl,h0⟩:=gQ (H:=0) Ox d5.out iw (Fr.refl 0 F0 wr) F0.body j0 k8 (by
    cases e2 with
    |nil=>exact absurd y1 (by unfold Ws bK;omega)
    |node b o a l r=>
     obtain⟨_,x,y,e,_⟩:=y1.parts;exact⟨b,o,a,l,r,rfl,fun h=>(by rw[h]at e;cases e),fun h=>(by rw[h]at e;cases e)⟩)
   obtain⟨u,p,j1⟩:=y1.val Ox
   have j3:IsT wr e2:=by
    have h1:IsT wr (bCF l):=by
     cases l with
     |nil=>trivial
     |node=>exact iw.1
    have h2:=nQ i _ h1;rw[k8]at h2;exact h2.1
   have X:XW B pb rb fb d al fl vars value r' wr:=HH.out.wx LP.rn LP.wx LP.mn;have h8:=hG rb fb vars value r' wr X j3;rw[j1]at h0 h8;have d3:=lQ (lens:=bCG al) (vars:=vars) hC e2 r';have k1:=LP.res;rw[k8,aQZ j9,aT1 e2 y1 r']at k1;have h9:Hid _:=LP;have g7:Hid (aL (i+1) (bCF l)=r2):=j5;generalize exW (bCG al) C vars e2 r'=x at*;obtain⟨xl,r3⟩:=x;dsimp only at*;generalize hd xl=V at*;have g2:Hid _:=k1;clear k1 LP hG y1 k8 j5 iw j3 j9 j1 X;go_wp2_with fail
   refine h8.mono ?_;rintro e W3 ⟨rfl,h3,x3⟩;have f3:=h9.out.fm.wx x3 (h9.out.fm.ne h9.out.rn);obtain⟨_,_,mv,mz⟩:=f3.cells;have mi:=mv i Oa;rw[Nat.add_comm]at mi;obtain⟨m,rfl⟩:=Oj gk
   have fin:∃ (i':Nat) (vs:List Int) (r':Rn),Value.int .i64 ((i:Int)+1)= .int .i64 i'/\i'<=aD l/\aD l<=i'+m/\LpC B pb rb al C vars (bCF l) T r w i' vs r' (W3.setCell ⟨w.heap.size,1+i,none⟩ (.int .i64 V)):=by
    refine⟨i+1,vs++[V],r3,Od,Oa,Oa,?_,by simp[h9.out.len],h3.frame f3 _ _,?_,(h9.out.wx.trans x3).setNew Ol _,h9.out.mn.trans d3⟩
    ·rw[g7.out,g2.out,List.append_assoc]
    ·rw[<-aGX,h9.out.len,Nat.add_comm 1 i];exact f3.setVar Oa V
   clear h3 x3 f3 mv h9 g2 g7 h0;go_wp2;go_roundg m
   case rel=>exact fin
   case measure=>omega
  ·have y8: ¬(i:Int) < (aD l:Int):=Oa
   have j6:T=(vs,r'):=by
    have:=LP.res;rw[show i=aO (bCF l)by rw[<-aT];omega,eS]at this;rw[this,show exW (bCG al) C vars .nil r'=([],r')from rfl,List.append_nil]
   have hR:=d7.out vs r' j6;have X:XW B pb rb fb d al fl vars value r' wr:=HH.out.wx LP.rn LP.wx LP.mn;have iw:IsT wr (.node b o a l q):=IsT.wx HH.out.rn LP.wx HI.out;obtain⟨c2,_,_⟩:=HO.out wr iw.2.2;obtain⟨f9,_,_,_⟩:=X.fm.cells;obtain⟨p9,_,_,_,_,_⟩:=X.rn.cells;obtain⟨it,vA,vF,mm,vS,H9,hp,_,hF⟩:=X.pg.prog;obtain⟨g9,cp9,cb,o9,a9,l9,x9,y9,z9,pw,qb,j2,hgj,e9,j4⟩:=hF.get he
   have pF:wr.cell? ⟨pb,2,none⟩=some (.slice (some ⟨g9,0,none⟩) fl.length cp9):=by
    rw[cell_of_row _ _ _ _ _ _ hp,<-j2];rfl
   have XC:XW B pb rb w.heap.size d al fl (cI vs) 0 r' wr:=⟨X.rn,LP.fm,X.pg,X.bd⟩;have iE:IsT wr e0:=X.pg.fns e0 (Qi he);have y6:Hid _:=X;have y2:Hid _:=XC;have g3:Hid (Wx B rb w wr):=LP.wx;have g4:Hid (IsT wr (.node b o a l q)):=iw;have g6:Hid _:=hR;have HIE:Hid (IsT wr e0):=iE
   have m0:Hid (At wr cb 105 (fun cs=>cs[4]?=some (bCH (aU e0))/\cs[5]?=some (bCH (bG e0)))):=by
    obtain⟨cs,hc,_,_,h4,h5,_⟩:=j4;rw[Hid,e9];exact⟨cs,hc,h4,h5⟩
   have z8:IsT wr (aU e0)/\IsT wr (bG e0):=by
    rw[e9]at iE ⊢;exact⟨iE.2.1.1,iE.2.1.2.1⟩
   have z1:Hid _:=z8;clear LP X iw hp hF j2 e9 j4 XC iE hR j6 z8;go_wp2_with fail
   go_quiet (fail)
   have w5:∀ n,XW B pb rb w.heap.size d al fl (cI vs) 0 r' (wr.drewN n):=fun n=>⟨y2.out.rn.drewN n,y2.out.fm,y2.out.pg.drewN n,y2.out.bd⟩;have k5:∀ n,IsT (wr.drewN n) (aU e0):=fun n=>IsT.hpq (w:=wr) (w':=wr.drewN n) rfl z1.out.1;have z5:Hid (∀ n,At (wr.drewN n) cb 105 (fun cs=>cs[4]?=some (bCH (aU e0))/\cs[5]?=some (bCH (bG e0)))):=fun n=>m0.out
   have z7:∀ n,(wr.drewN n).cell? ⟨cb,4,none⟩=some (bCH (aU e0)):=fun n=>by
    obtain⟨cs,hc,h4,_⟩:=z5.out n;rw[cell_of_row _ _ _ _ _ _ hc];exact h4
   have y5:=fun n=>aH9 d1 hT (wr.drewN n) (w5 n) (k5 n) (z7 n);have g8:Hid (∀ n,XW B pb rb w.heap.size d al fl (cI vs) 0 r' (wr.drewN n)):=w5;have k2:Hid (∀ n,XW B pb rb fb d al fl vars value r' (wr.drewN n)):=fun n=>⟨y6.out.rn.drewN n,y6.out.fm,y6.out.pg.drewN n,y6.out.bd⟩;have d9:Hid (∀ n,IsT (wr.drewN n) (.node b o a l q)):=fun n=>IsT.hpq (w:=wr) (w':=wr.drewN n) rfl g4.out;have d0:Hid (∀ n,IsT (wr.drewN n) (bG e0)):=fun n=>IsT.hpq (w:=wr) (w':=wr.drewN n) rfl z1.out.2;have g1:Hid (∀ n,Wx B rb w (wr.drewN n)):=fun n=>g3.out.drewN n
   have y4:Hid (∀ (x:Int × Rn) (W W':World),R=x->Wx B rb w W->aRZ B pb rb w.heap.size x W (.returned (.int .i64 x.1)) W'->aBK B pb rb R.1 R.2 w (.returned (.int .i64 R.1)) W'):=fun x W W' ex hx hp=>by
    rw[ex];exact⟨rfl,hp.2.1,hp.2.2.caller hx Ol⟩
   clear w5 k5 z7 y2 z1 g4 g3;cases hk:tkW (cI vs) (aU e0)
   ·have z3:Hid (R=enD (bCG al) fl d e0 (cI vs) (r'.trap a.site)):=by
     have:=g6.out;rw[hk]at this;exact this
    have y3:Hid (∀ n,Calls Tryz.prog 77 #[.pointer (some ⟨w.heap.size,0,none⟩),.pointer (some ⟨cb,0,none⟩)] (wr.drewN n) fun e w'=>e= .returned (.bool false)/\RnW B pb rb r' w'/\Wx B rb (wr.drewN n) w'):=fun n=>by
     have:=y5 n;rw[hk]at this;exact this
    clear y5 hk;go_wp2_with fail
    refine(y3.out _).mono ?_;rintro e W6 ⟨rfl,h6,x6⟩;have X6:=(k2.out _).wx h6 x6 (Mn.refl _);have C6:=(g8.out _).wx h6 x6 (Mn.refl _);have i6:IsT W6 (.node b o a l q):=IsT.wx (k2.out _).rn x6 (d9.out _);have b6:IsT W6 (bG e0):=IsT.wx (k2.out _).rn x6 (d0.out _);have F6:=At.wx (z5.out _) (k2.out _).rn x6 Ob Ob;have w6:=(g1.out _).trans x6;obtain⟨k0,_,_,_⟩:=X6.fm.cells;obtain⟨_,_,k4⟩:=HO.out W6 i6.2.2;have d2:=qQ a.site W6.drew h6.drew;have y7:Hid _:=X6.drew;have z6:Hid _:=C6.drew;have d8:Hid (IsT W6.drew (.node b o a l q)):=IsT.hpq (w:=W6) (w':=W6.drew) rfl i6;have m2:Hid (IsT W6.drew (bG e0)):=IsT.hpq (w:=W6) (w':=W6.drew) rfl b6;have m1:Hid (At W6.drew cb 105 (fun cs=>cs[4]?=some (bCH (aU e0))/\cs[5]?=some (bCH (bG e0)))):=F6;have z2:Hid _:=w6.drew;clear X6 C6 i6 b6 F6 w6 h6 x6 y3;go_wp2_with fail
    go_region_held3 (fun w'=>w'.cell? ⟨fb,0,none⟩=some (.pointer (some ⟨rb,0,none⟩))/\w'.cell? ⟨b,4,none⟩=some (.int .i64 a.site))
     (first
       |(refine⟨?_,?_⟩<;>assumption)
       |go_keep)
     ((refine eC rfl 305 #[.pointer (some ⟨rb,0,none⟩),.int .i64 a.site] _ (by go_simp) d2 ?_;rintro e W7 ⟨rfl,h7,x7⟩;refine⟨_,rfl,?_⟩;have f7:=y7.out.fm.wx x7 (y7.out.fm.ne y7.out.rn);have i7:IsT W7 (.node b o a l q):=IsT.wx y7.out.rn x7 d8.out;obtain⟨p0,_,_,_⟩:=f7.cells;obtain⟨_,_,p4⟩:=HO.out W7 i7.2.2))
    have C7:=z6.out.wx h7 x7 (Mn.trap _ _);have b7:IsT W7 (bG e0):=IsT.wx z6.out.rn x7 m2.out;obtain⟨cs7,k9,_,g5⟩:=At.wx m1.out z6.out.rn x7 Ob Ob;have k7:=hE rb w.heap.size cb (cI vs) _ W7 C7 b7 ⟨cs7,k9,g5⟩;rw[<-z3.out]at k7;have d6:Hid _:=z2.out.trans x7;clear C7 b7 k9 g5 h7 x7 f7 i7;go_wp2_with fail
    refine k7.mono ?_;rintro e W8 hp;obtain⟨rfl,k6⟩:=hp;have fin:=y4.out R W7 W8 rfl d6.out ⟨rfl,k6⟩;have z4:Hid _:=fin;clear fin k6;go_wp2;go_ret;exact⟨rfl,z4.out.2⟩
   ·have z3:Hid (R=enD (bCG al) fl d e0 (cI vs) r'):=by
     have:=g6.out;rw[hk]at this;exact this
    have y3:Hid (∀ n,Calls Tryz.prog 77 #[.pointer (some ⟨w.heap.size,0,none⟩),.pointer (some ⟨cb,0,none⟩)] (wr.drewN n) fun e w'=>e= .returned (.bool true)/\RnW B pb rb r' w'/\Wx B rb (wr.drewN n) w'):=fun n=>by
     have:=y5 n;rw[hk]at this;exact this
    clear y5 hk;go_wp2_with fail
    refine(y3.out _).mono ?_;rintro e W6 ⟨rfl,h6,x6⟩;have C6:=(g8.out _).wx h6 x6 (Mn.refl _);have b6:IsT W6 (bG e0):=IsT.wx (k2.out _).rn x6 (d0.out _);obtain⟨cs7,k9,_,g5⟩:=At.wx (z5.out _) (k2.out _).rn x6 Ob Ob;have k7:=hE rb w.heap.size cb (cI vs) _ W6 C6 b6 ⟨cs7,k9,g5⟩;rw[<-z3.out]at k7;have z2:Hid _:=(g1.out _).trans x6;clear C6 b6 k9 g5 h6 x6 y3;go_wp2_with fail
    refine k7.mono ?_;rintro e W8 hp;obtain⟨rfl,k6⟩:=hp;have fin:=y4.out R W6 W8 rfl z2.out ⟨rfl,k6⟩;have z4:Hid _:=fin;clear fin k6;go_wp2;go_ret;exact⟨rfl,z4.out.2⟩
end
section
open Go.RowKit Go.Lib Go.Deep Go.ChangeMaps Go.MapKept
variable {B pb d:Nat} {al fl:List Tr} {par:Nat->Option Nat} {na:Nat} {C:Cl}
structure aCS(par:Nat->Option Nat)(na:Nat)(al fl:List Tr):Prop where
 arrs:na<=al.length
 few:fl.length<=1000000
 pars:∀ j n,par j=some n->n<=4/\∃ e,fl[j]?=some e
 fns:∀ e∈fl,Ws 5 (aU e)/\Ws 4 (bG e)/\Vd par na 12 (aU e)/\Vd par na 12 (bG e)
theorem aCS.ok(h:aCS par na al fl)(lens:Nat->Int)(d:Nat):COk (clW lens fl d):=aTA (fun e he=>(h.fns e he).2.1) d
theorem aBJ{t:Tr}(h:Ws 21 t):Ws 0 t:=by
 cases t with
 |nil=>exact absurd h (by unfold Ws bK;omega)
 |node b o a l q=>
  obtain⟨ha,x,y,h0,hl,hq⟩:=h.parts
  have h1:a.tag<=1:=by
   by_cases h1:a.tag<=1
   ·exact h1
   ·exfalso;simp[sig,h1]at h0
  have e:x=99/\y=99:=by
   have:a.tag=0\/a.tag=1:=Oa
   rcases this with k|k<;>rw[k]at h0<;>cases h0<;>exact⟨rfl,rfl⟩
  obtain⟨rfl,rfl⟩:=e;exact Ws.of (x:=99) (y:=99) (by simp[sig,h1]) ha hl hq Oa
theorem aOW{t:Tr}(h:Ws 21 t)(hv:Vd par na 12 t):GX 200 B pb d C al fl bCH t:=by
 have h0:=aBJ h;cases t with
 |nil=>exact absurd h (by unfold Ws bK;omega)
 |node b o a l q=>
  obtain⟨_,x,y,h2,_⟩:=h.parts
  have h1:a.tag<=1:=by
   by_cases h1:a.tag<=1
   ·exact h1
   ·exfalso;simp[sig,h1]at h2
  exact aO1 h0 (fun k=>by have:=hv.2.2.1 (.inl k);omega) (fun k=>Oa) (fun k=>Oa) (fun k=>Oa) (fun k=>Oa)
theorem aPC(hC:COk C):∀ (L:Tr),Ws 15 L->Vd par na 12 L->fE (fun x=>Ws 20 x/\GB 130 B pb d C al fl cB x) L:=by
 intro L
 induction L with
 |nil=>intro _ _;trivial
 |node b o a e r _ ih=>
  intro hw hv;obtain⟨h3,h1,h2⟩:=aY Ov hw;refine⟨h3,⟨h1,?_⟩,ih h2 hv.2.1⟩;have h1:Ws 20 e:=h1;cases e with
  |nil=>exact absurd h1 (by unfold Ws bK;omega)
  |node b o a l q=>
   obtain⟨ha,x,y,h0,hl,hq⟩:=h1.parts
   have h7:a.tag=7:=by
    by_cases h:a.tag=7
    ·exact h
    ·exfalso;simp[sig,h]at h0
   rw[h7]at h0;cases h0;exact aBE h7 (ha.op7 h7) hC (.inr hl) (aOW hl hv.1.1) (.inr hq) (aOW hq hv.1.2.1)
theorem aAH(hC:COk C){p:Tr}(hw:Ws 5 p)(hv:Vd par na 12 p):fE (fun x=>Ws 20 x/\GB 130 B pb d C al fl cB x) (bCF p):=by
 refine aPC (par:=par) (na:=na) hC _ (hw.elems Ov) ?_;cases p with
 |nil=>trivial
 |node b o a l r=>exact hv.1
theorem aQ8(hF:aCS par na al fl)(hE:∀ e∈fl,GE B pb d al fl e):∀ (n:Nat) (t:Tr),szT t<=n->Vd par na 12 t->
 (Ws 0 t->GX 200 B pb d (clW (bCG al) fl d) al fl bCH t)/\(Ws 1 t->GB 257 B pb d (clW (bCG al) fl d) al fl bCH t)/\(Ws 2 t->GSt 201 B pb d (clW (bCG al) fl d) al fl bCH t)/\(Ws 4 t->GSt 132 B pb d (clW (bCG al) fl d) al fl bCH t)/\
 (Ws 13 t->fE (fun e=>Ws 0 e/\GX 200 B pb d (clW (bCG al) fl d) al fl bCH e) t)/\(Ws 14 t->fE (fun e=>Ws 2 e/\GSt 201 B pb d (clW (bCG al) fl d) al fl bCH e) t):=by
 have hC:=hF.ok (bCG al) d;intro n
 induction n with
 |zero=>intro t h;cases t<;>simp[szT]at h
 |succ n ih=>
  intro t k3 hv;cases t with
  |nil=>
   refine⟨fun h=>absurd h (by unfold Ws bK;omega),fun h=>absurd h (by unfold Ws bK;omega),fun h=>absurd h (by unfold Ws bK;omega),fun h=>?_,fun _=>trivial,fun _=>trivial⟩;exact aI6 h hC trivial
  |node b o a l r=>
   have hl:szT l<=n/\szT r<=n:=by simp only[szT]at k3;omega
   obtain⟨vl,vr,v1,v2,v3⟩:=hv;have IL:=ih l hl.1 vl;have IR:=ih r hl.2 vr
   have elemsOf:Ws 3 l->fE (fun e=>Ws 0 e/\GX 200 B pb d (clW (bCG al) fl d) al fl bCH e) (bCF l):=by
    intro hw;rcases hw.lst (.inl rfl)with rfl|⟨b2,o2,a2,l2,rfl,k4,h5⟩
    ·trivial
    ·have h6:szT l2<=n:=by have:=hl.1;simp only[szT]at this;omega
     exact(ih l2 h6 vl.1).2.2.2.2.1 h5
   have ar:=hF.arrs;refine⟨fun hw=>?_,fun hw=>?_,fun hw=>?_,fun hw=>?_,fun hw=>?_,fun hw=>?_⟩
   ·obtain⟨h4,x,y,h0,h1,h2⟩:=hw.parts;refine aO1 hw (fun hk=>by have:=v1 (.inl hk);omega) (fun hk=>?_) (fun hk=>?_) (fun hk=>?_) (fun hk=>?_)
    ·have:x=0:=by rcases hk with h|h<;>rw[h]at h0<;>cases h0<;>rfl
     subst this;exact⟨h1,IL.1 h1⟩
    ·have e:x=0/\y=99:=by rw[hk]at h0;cases h0;exact⟨rfl,rfl⟩
     obtain⟨rfl,rfl⟩:=e;obtain rfl:=h2.nil_of;exact aKK hk hC (Oi (v2 (.inl hk))) ⟨h1,IL.1 h1⟩
    ·have:x=3:=by rw[hk]at h0;cases h0;rfl
     subst this;obtain⟨k1,k2⟩:=v3 hk;obtain⟨p4,e0,he⟩:=hF.pars _ _ k2;obtain⟨f1,f2,f3,f4⟩:=hF.fns e0 (Qi he);exact aTD rfl hk h1 hC (j:=a.which.toNat) Oa he p4 (elemsOf h1) f1 (aAH hC f1 f3) (hE e0 (Qi he))
    ·rw[hk]at h0;cases h0;exact aOT hk (h4.op6 hk) hC ⟨h1,IL.1 h1⟩ ⟨h2,IR.1 h2⟩
   ·obtain⟨h4,x,y,h0,h1,h2⟩:=hw.parts;refine aT7 hw hC (fun hk=>?_) (fun hk=>?_)
    ·rw[hk]at h0;cases h0;exact aBE hk (h4.op7 hk) hC (.inl h1) (IL.1 h1) (.inl h2) (IR.1 h2)
    ·rw[hk]at h0;cases h0;exact⟨h1,h2,IL.2.1 h1,IR.2.1 h2⟩
   ·obtain⟨h4,x,y,h0,h1,h2⟩:=hw.parts;obtain⟨t1,t2⟩:=jR hw;have tags:a.tag=9\/a.tag=10\/a.tag=11\/a.tag=12\/a.tag=13\/a.tag=14:=Oa
    rcases tags with hk|hk|hk|hk|hk|hk
    ·rw[hk]at h0;cases h0;exact aPP hk hC (Oi (v1 (.inr hk))) ⟨h1,IL.1 h1⟩
    ·rw[hk]at h0;cases h0;exact aLM hk hC (Oi (v2 (.inr hk))) ⟨h1,IL.1 h1⟩ ⟨h2,IR.1 h2⟩
    ·rw[hk]at h0;cases h0;cases r with
     |nil=>exact absurd h2 (by unfold Ws bK;omega)
     |node x y z p q=>
      obtain⟨_,sp,sq,h7,k0,h9⟩:=h2.parts
      have hz:z.tag=18:=by
       by_cases h:z.tag=18
       ·exact h
       ·exfalso;simp[sig,h]at h7
      rw[hz]at h7;cases h7;have hs:szT p<=n/\szT q<=n:=by have:=hl.2;simp only[szT]at this;omega
      exact aLL hk hC ⟨h1,IL.2.1 h1⟩ ⟨k0,(ih p hs.1 vr.1).2.2.2.1 k0⟩ ⟨h9,(ih q hs.2 vr.2.1).2.2.2.1 h9⟩
    ·rw[hk]at h0;cases h0;exact aLK hk (aPA hk hC ⟨h1,IL.2.1 h1⟩ ⟨h2,IR.2.2.2.1 h2⟩)
    ·rw[hk]at h0;cases h0;exact aLJ hk ⟨h1,IL.1 h1⟩
    ·rw[hk]at h0;cases h0;exact aLI hk hC ⟨h1,IL.1 h1⟩
   ·obtain⟨b2,o2,a2,l2,e,k4,h5⟩:=(hw.lst Ow).resolve_left (by intro h;cases h);simp only[BT.node.injEq]at e;obtain⟨rfl,rfl,rfl,rfl,rfl⟩:=e;exact aI6 hw hC (IL.2.2.2.2.2 h5)
   ·obtain⟨h8,h3,h2⟩:=aY Ox hw;exact⟨h8,⟨h3,IL.1 h3⟩,IR.2.2.2.2.1 h2⟩
   ·obtain⟨h8,h3,h2⟩:=aY Ow hw;exact⟨h8,⟨h3,IL.2.2.1 h3⟩,IR.2.2.2.2.2 h2⟩
theorem aKH(hF:aCS par na al fl):∀ (d:Nat),∀ e∈fl,GE B pb d al fl e:=by
 intro d
 induction d with
 |zero=>intro e he;exact aI4 (hF.fns e he).2.1 (hF.ok _) (fun d' h=>absurd h Oa)
 |succ d ih=>
  intro e he;obtain⟨f1,f2,f3,f4⟩:=hF.fns e he;refine aI4 f2 (hF.ok _) (fun d' h=>?_);obtain rfl:d'=d:=Oa
  exact(aQ8 hF ih _ _ Ol f4).2.2.2.1 f2
theorem aIQ(hF:aCS par na al fl)(d:Nat){e:Tr}(he:e∈fl):fE (fun x=>Ws 20 x/\GB 130 B pb d (clW (bCG al) fl d) al fl cB x) (bCF (aU e)):=
 aAH (hF.ok _ _) (hF.fns e he).1 (hF.fns e he).2.2.1
end
section
open Go.RowKit Go.Lib Go.Deep Go.ChangeMaps Go.MapKept
def qO(t:Tr):List Tr:=aF 16 (bCF (siT (cR t) (dY t) []))
def gG(t:Tr):List Tr:=aF 17 (bCF (siT (cR t) (dY t) []))
def tK(t:Tr):Tr:=(gG t).getD (qV t).toNat .nil
theorem aEC{w:World}(k:Nat):∀ {L:Tr},IsT w L->∀ e∈aF k L,IsT w e:=by
 intro L
 induction L with
 |nil=>intro _ e he;cases he
 |node b o a x r _ ih=>
  intro h e he
  by_cases hk:bN x=k
  ·rw[show aF k (.node b o a x r)=x::aF k r from if_pos hk]at he;rcases List.mem_cons.1 he with rfl|he
   ·exact h.1
   ·exact ih h.2.1 e he
  ·rw[show aF k (.node b o a x r)=aF k r from if_neg hk]at he;exact ih h.2.1 e he
theorem aEA(k:Nat):∀ L:Tr,(aF k L).length<=aO L:=by
 intro L
 induction L with
 |nil=>exact Qc _
 |node b o a x r _ ih=>
  show(if bN x=k then x::aF k r else aF k r).length<=aO r+1
  split
  ·simp only[List.length_cons];omega
  ·omega
theorem aNN{k:Nat}:∀ {L:Tr} {e:Tr},e∈aF k L->bN e=k:=by
 intro L
 induction L with
 |nil=>intro e he;cases he
 |node b o a x r _ ih=>
  intro e he
  by_cases hk:bN x=k
  ·rw[show aF k (.node b o a x r)=x::aF k r from if_pos hk]at he;rcases List.mem_cons.1 he with rfl|he
   ·exact hk
   ·exact ih he
  ·rw[show aF k (.node b o a x r)=aF k r from if_neg hk]at he;exact ih he
theorem aQO{k:Nat}:∀ {L:Tr},Ws 18 L->∀ e∈aF k L,Ws 7 e:=by
 intro L
 induction L with
 |nil=>intro _ e he;cases he
 |node b o a x r _ ih=>
  intro hw e he;obtain⟨h15,h1,h0⟩:=aY Ot hw
  by_cases hk:bN x=k
  ·rw[show aF k (.node b o a x r)=x::aF k r from if_pos hk]at he;rcases List.mem_cons.1 he with rfl|he
   ·exact h1
   ·exact ih h0 e he
  ·rw[show aF k (.node b o a x r)=aF k r from if_neg hk]at he;exact ih h0 e he
theorem aNX{e:Tr}(hw:Ws 7 e)(ht:bN e=17):∃ b o a l x y z p q,e= .node b o a l (.node x y z p q)/\a.tag=17/\Ws 6 l/\Ws 5 p/\Ws 4 q:=by
 cases e with
 |nil=>exact absurd hw (by unfold Ws bK;omega)
 |node b o a l r=>
  have h2:a.tag=17:=ht;obtain⟨_,x,y,h0,hl,hr⟩:=hw.parts;rw[h2]at h0;cases h0;cases r with
  |nil=>exact absurd hr (by unfold Ws bK;omega)
  |node x y z p q=>
   obtain⟨_,sp,sq,h1,hp,hq⟩:=hr.parts
   have hz:z.tag=18:=by
    by_cases h:z.tag=18
    ·exact h
    ·exfalso;simp[sig,h]at h1
   rw[hz]at h1;cases h1;exact⟨b,o,a,l,x,y,z,p,q,rfl,h2,hl,hp,hq⟩
structure oC(s:ByteArray)(t:Tr):Prop where
 ws:Ws 8 t
 ok:wR t (dY t) (qV t)
 si:Ws 18 (bCF (dY t))
 el:bCF (siT (cR t) (dY t) [])=siT (cR t) (bCF (dY t)) []
theorem good{s:ByteArray}{t:Tr}(he:er t=rdT s)(hc:(eZ s).1=0):oC s t:=by
 unfold eZ at hc
 by_cases h4:4000 < s.size
 ·rw[if_pos h4]at hc;cases hc
 rw[if_neg h4]at hc
 by_cases h1:(dN s).code=0
 ·rw[Oh]at hc
  by_cases h2:(bP (aW s)).1.code=0
  ·rw[Oh]at hc;have h3:(fO (rdT s) s.size).code=0:=hc;have h5:=mV h1 Oa;have hw:Ws 8 t:=(Ws.er t 8).1 (by rw[he];exact(qA h5 (lI s) (by simp[aW]) h2).1);rw[<-he,aHI]at h3;have h0:=(lM hw).1;refine⟨hw,aHM hw h3,h0.elems Ot,aKJ _ (fun b o a l r e=>?_) _⟩;rcases h0.lst (.inr (.inr (.inr Oy)))with e2|⟨b2,o2,a2,l2,e2,h20,_⟩
   ·rw[e2]at e;cases e
   ·rw[e2]at e;cases e;exact h20
  ·rw[if_pos h2]at hc;exact absurd hc h2
 ·rw[if_pos h1]at hc;exact absurd hc h1
variable {s:ByteArray} {t:Tr}
theorem oC.fl(h:oC s t){e:Tr}(he:e∈gG t):∃ b o a l x y z p q,e= .node b o a l (.node x y z p q)/\a.tag=17/\Ws 6 l/\Ws 5 p/\Ws 4 q/\Vd (mI t) (oU t) 12 p/\Vd (mI t) (oU t) 12 q:=by
 unfold gG at he;rw[h.el]at he;obtain⟨e0,S,h0,rfl⟩:=mM h.si he;obtain⟨b,o,a,l,x,y,z,p,q,e1,h1,hl,hp,hq⟩:=aNX (aQO h.si e0 h0) (aNN h0);obtain⟨b',o',a',l',x',y',z',p',q',e2,_,hz,v1,v2,_⟩:=h.ok.fns e0 h0;rw[e1]at e2;cases e2;rw[e1,(xT h1 hz hl hp).2];exact⟨b,o,a,l,x,y,z,p,_,rfl,h1,hl,hp,(gO _ q _).ws hq,v1,v2.si _⟩
theorem oC.len(h:oC s t):(gG t).length=(aF 17 (bCF t)).length:=by
 unfold gG;rw[h.el];have:=congrArg List.length (qD (F:=cR t) (k:=17) (S:=[]) h.si);simp only[List.length_map]at this;rw[this];exact h.ok.len
theorem oC.alen(h:oC s t):(qO t).length=oU t:=by
 unfold qO;rw[h.el];have:=congrArg List.length (qD (F:=cR t) (k:=16) (S:=[]) h.si);simp only[List.length_map]at this;rw[this];exact h.ok.na
theorem oC.flok(h:oC s t):aCS (mI t) (oU t) (qO t) (gG t):=by
 refine⟨by rw[h.alen];exact Qc _,?_,fun j n hj=>?_,fun e he=>?_⟩
 ·rw[h.len];have h1:=aEA 17 (bCF t);have h2:=fB Ot h.ws;rw[aT]at h2;omega
 ·have hlt:j < (aF 17 (bCF t)).length:=by
   rcases Qk j (aF 17 (bCF t)).length with h|h
   ·exact h
   ·unfold mI at hj;rw[List.getElem?_eq_none (by simpa using h)]at hj;cases hj
  have h0:((aF 17 (bCF (dY t))).map gJ)[j]?=some n:=by rw[h.ok.par];exact hj
  rw[List.getElem?_map]at h0;have hl2:=h.len;refine⟨?_,(gG t)[j]'Oa,List.getElem?_eq_getElem Oa⟩;cases he:(aF 17 (bCF (dY t)))[j]? with
  |none=>rw[he]at h0;cases h0
  |some e=>
   rw[he]at h0;obtain⟨b,o,a,l,x,y,z,p,q,e1,_,_,_,_,h4⟩:=h.ok.fns e (Qi he);rw[e1]at h0;simp only[Option.map_some,Option.some.injEq]at h0;rw[<-h0];exact h4
 ·obtain⟨b,o,a,l,x,y,z,p,q,e1,h17,hl,hp,hq,v1,v2⟩:=h.fl he;rw[e1];exact⟨hp,hq,v1,v2⟩
theorem oC.main(h:oC s t):∃ j:Nat,qV t=j/\(gG t)[j]?=some (tK t):=by
 obtain⟨j,e,hj⟩:=h.ok.main;have hlen:=h.len;have:=h.ok.len;refine⟨j,e,?_⟩;unfold tK;rw[e,Int.toNat_natCast,List.getD_eq_getElem?_getD];rw[List.getElem?_eq_getElem Oa];rfl
theorem Pg0.pgx{H g cap pb:Nat}{vA vF vS:Value}{w:World}(h:Pg0 H g cap pb s t vA vF vS w)(hg:oC s t):PgX pb (qO t) (gG t) w:=by
 have k0:IsT w (siT (cR t) (bCF (dY t)) []):=by
  rw[<-hg.el];have:=h.is;cases hT:siT (cR t) (dY t) []with
  |nil=>trivial
  |node b o a l r=>rw[hT]at this;exact this.1
 have h2:∀ k,(aF k (bCF (siT (cR t) (dY t) []))).map cB=(aF k (bCF (dY t))).map cB:=fun k=>by
  rw[hg.el];exact qD hg.si
 have h9:∀ e∈gG t,IsT w e:=fun e he=>by
  unfold gG at he;rw[hg.el]at he;exact aEC 17 k0 e he
 have h7:∀ e∈gG t,∃ b o a l x y z p q,e= .node b o a l (.node x y z p q)/\FnW w b a l p q/\Ws 5 p/\Ws 4 q:=fun e he=>by
  obtain⟨b,o,a,l,x,y,z,p,q,e1,k1,hl,hp,hq,_,_⟩:=hg.fl he;have hi:=h9 e he;rw[e1]at hi;obtain⟨cs,hc,hn,h3,x',y',z',p',q',e2,h4,h5,h6⟩:=aI hi.2.2 (n:=17) k1;simp only[BT.node.injEq]at e2;obtain⟨rfl,rfl,rfl,rfl,rfl⟩:=e2;exact⟨b,o,a,l,x,y,z,p,q,e1,⟨cs,hc,hn,h3,h4,h5,h6⟩,hp,hq⟩
 refine⟨⟨bCH t,vA,vF,qV t,vS,H,h.prog,?_,⟨?_,h7⟩⟩,fun e he=>?_,?_,h9⟩
 ·have h1:=h.arrs;rw[hg.alen];unfold qO;rw[h2 16]
  have e1:nH 16 (bCF t)=(aF 16 (bCF (dY t))).map cB:=by
   have hL:=hg.ws.elems Ot;rw[jJ hg.ws,(wF _ _ _ (kY hL)).2.1,aHL,vV]
  rw[<-e1];exact h1
 ·have h1:=h.fns.row;have e1:(gG t).map cB=(cR t).map cB:=h2 17;have e2:(gG t).length=(cR t).length:=by simpa using congrArg List.length e1
  rw[e1,e2];exact h1
 ·unfold qO at he;rw[hg.el]at he;have h8:=aEC 16 k0 e he;obtain⟨e0,S,h0,rfl⟩:=mM hg.si he;obtain⟨b,o,a,l,r,rfl,k2,_,v1,v2⟩:=hg.ok.arrs e0 h0;rw[nI Oa]at h8 ⊢;obtain⟨cs,hc,_,h3,_⟩:=aI h8.2.2 (n:=16) k2;exact⟨b,o,a,_,_,rfl,⟨cs,hc,h3⟩,v1,v2⟩
 ·rw[hg.alen];exact hg.ok.few
end
end Go.Proofs.YtikffmloeifkpaaGreatDoor
