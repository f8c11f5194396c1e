/- Contracts. -/
import Derived.Test.YtikffmloeifkpaaGreatDoorZLop
import Derived.Deep.Cut
namespace Go.Proofs.YtikffmloeifkpaaGreatDoor
open Go.RowKit Go.Lib Go.Deep Go.ChangeMaps Go.MapKept
theorem bDP{s:ByteArray}(w:World)(ht:Tab w)(hs:s.size<=100)(hr:eZ s=(0,0)):Calls Tryz.prog 19 #[.string s] w fun e w'=>∃ ab,e= .returned (.tuple #[.pointer (some ⟨ab,0,none⟩),.agg #[.int .i64 0,.int .i64 0]])/\PgW ab s w'/\Below w.heap.size w w':=by
 refine(aA6 s w ht (by unfold maxLen;omega)).mono ?_;rintro e w' ⟨b,h⟩;rcases h with⟨h,_⟩|⟨_,ab,e1,hp⟩
 ·rw[hr]at h;exact absurd rfl h
 ·exact⟨ab,e1,hp,b⟩
theorem PgW.off{ab k:Nat}{s:ByteArray}{w w':World}{c:Array Value}(h:PgW ab s w)(hk:w.heap[k]?=some (.cells c 37 (0,0)))(hw:∀ i,i < w.heap.size->i≠k->w'.heap[i]?=w.heap[i]?):PgW ab s w':=by
 obtain⟨H,g,cap,pb,t,vA,vF,vS,h1,h2⟩:=h.ex;exact⟨H,g,cap,pb,t,vA,vF,vS,(hw _ (Array.getElem?_eq_some_iff.1 h1).1 (bF h1 hk (by decide))).trans h1,h2.off hk hw⟩
def bE4(c:Bool)(x y:Int):Int:=if c then x else y
theorem isL{i j a b c:Int}:isB (bDX i j a b c) ((opW i a b).2&&(opW j (opW i a b).1 c).2) (opW j (opW i a b).1 c).1 (if(opW i a b).2 then bDM i else 0)=true:=by
 unfold bDX;cases h1:(opW i a b).2<;>cases h2:(opW j (opW i a b).1 c).2<;>simp[isB]
theorem isR{i j a b c:Int}:isB (bDW i j a b c) ((opW j b c).2&&(opW i a (opW j b c).1).2) (opW i a (opW j b c).1).1 (if(opW j b c).2 then 0 else bDM i)=true:=by
 unfold bDW;cases h1:(opW j b c).2<;>cases h2:(opW i a (opW j b c).1).2<;>simp[isB]
set_option maxRecDepth 100000 in
set_option maxHeartbeats 40000000 in
theorem bDT(x y a b c:Int)(w:World)(ht:Tab w)(hx:-9223372036854775808<=x/\x<=9223372036854775807)(hy:-9223372036854775808<=y/\y<=9223372036854775807):
 Calls Tryz.prog 6 #[.int .i64 x,.int .i64 y,.int .i64 a,.int .i64 b,.int .i64 c] w fun e w'=>e= .returned (.bool true)/\Below w.heap.size w w':=by
 have hs:=aLH w ht;have h0:=aBP ht;have HT:Hid (∀ w',Below w.heap.size w w'->Tab w'):=fun w' h=>ht.below h h0;clear ht;go_enter Tryz.func6,Tryz.ntmps6
 go_wp2_with fail
 refine hs.mono ?_;rintro e W1 ⟨rfl,b1⟩;have h5:Hid (Below w.heap.size w W1):=b1;clear hs b1;go_wp2_with fail
 refine(aMU x 5 W1 hx (by decide)).mono ?_;rintro e W1 ⟨⟨v,rfl,v0,v1,_⟩,rfl⟩;go_wp2_with fail
 refine(aMU y 5 W1 hy (by decide)).mono ?_;rintro e W1 ⟨⟨u,rfl,u0,u1,_⟩,rfl⟩;obtain⟨i,rfl⟩:∃ i:Nat,v=i:=⟨v.toNat,by omega⟩;obtain⟨j,rfl⟩:∃ j:Nat,u=j:=⟨u.toNat,by omega⟩;have hi:i < 5:=by omega
 have hj:j < 5:=by omega
 have hwi:IntKind.i64.wrap ((i:Int)+1)=(i:Int)+1:=IntWalk.i64_in _ (by omega);have hwj:IntKind.i64.wrap ((j:Int)+1)=(j:Int)+1:=IntWalk.i64_in _ (by omega);have h3:0<=(i:Int)/\(i:Int) < 5:=⟨v0,v1⟩;have j7:0<=(j:Int)/\(j:Int) < 5:=⟨u0,u1⟩;obtain⟨rA,zA,wA⟩:=bE9 hi hj a b c;obtain⟨rB,zB,wB⟩:=bE8 hi hj a b c;obtain⟨rC,zC,wC⟩:=bE7 hi hj a b c;have HA:Hid _:=wA;have HB:Hid _:=wB;have HC:Hid _:=wC;have k3:Hid (eZ (txA i j)=(0,0)/\(txA i j).size<=100):=⟨rA,zA⟩;have k2:Hid (eZ (txB i j)=(0,0)/\(txB i j).size<=100):=⟨rB,zB⟩;have k1:Hid (eZ (txC i j)=(0,0)/\(txC i j).size<=100):=⟨rC,zC⟩;clear wA wB wC rA zA rB zB rC zC hx hy v0 v1 u0 u1;go_upto_region 5 with fail
 go_cut [15,16]from 33 (fun p f w'=>(∃ ab,p= .pointer (some ⟨ab,0,none⟩)/\PgW ab (txA i j) w')/\Below w.heap.size w w')
 case first=>as_aux_lemma=>
  rename_i J K' hJ hK;have y1:(0:Int)<=(i:Int):=h3.1;have y2:(i:Int)<=(i:Int)+1:=by omega
  have y3:(i:Int)+1<=5:=by omega
  have y4:(0:Int)<=(j:Int):=j7.1;have y5:(j:Int)<=(j:Int)+1:=by omega
  have y6:(j:Int)+1<=5:=by omega
  have y7:(0:Int)<=(i:Int)+1:=by omega
  have y8:(0:Int)<=(j:Int)+1:=by omega
  have yi:((i:Int)+1).toNat=i+1:=by omega
  have yj:((j:Int)+1).toNat=j+1:=by omega
  have yk:i+1<=5:=by omega
  have yl:j+1<=5:=by omega
  have k7:∀ w',Below w.heap.size w w'->Calls Tryz.prog 19 #[.string (txA i j)] w' fun e w2=>∃ ab,e= .returned (.tuple #[.pointer (some ⟨ab,0,none⟩),.agg #[.int .i64 0,.int .i64 0]])/\PgW ab (txA i j) w2/\Below w'.heap.size w' w2:=fun w' h=>bDP w' (HT.out _ h) k3.out.2 k3.out.1;have y9:txA i j=({data:=#[102,110,32,109,97,105,110,40,97,44,32,98,44,32,99,41,32,123,32,114,101,116,117,114,110,32,40,97,32]}:ByteArray)++({data:=#[43,45,42,47,37]}:ByteArray).extract i (i+1)++({data:=#[32,98,41,32]}:ByteArray)++({data:=#[43,45,42,47,37]}:ByteArray).extract j (j+1)++({data:=#[32,99,59,32,125]}:ByteArray):=rfl;generalize txA i j=sX at*;clear HA HB HC k3 k2 k1
  go_region_held3 (fun w'=>True) (trivial)
   ((go_at_call 19;rw[<-y9];refine(k7 _ (by first|exact h5.out.drew|exact Below.alloc h5.out.drew h5.out.size _)).mono ?_;rintro e W2 ⟨aX,rfl,h9,b2⟩;try (have q0:W2.heap[W1.heap.size]?=some (.cells #[.int .i64 0,.int .i64 0] 37 (0,0)):=(b2.block _ (by simp)).trans (heap_alloc_new W1.drew _);obtain⟨c0,c1,cz⟩:=iV q0)))
  all_goals (first|refine hK _ _ (Met.intro (hJ _ _ ?_))|refine Met.intro (hJ _ _ ?_)|refine hJ _ _ ?_)
  all_goals (repeat apply Exists.intro)
  all_goals refine⟨?_,rfl⟩
  ·have hz:w.heap.size<=W2.heap.size:=Nat.le_trans h5.out.size b2.size;exact⟨⟨aX,rfl,h9.next (fun k hk=>Below.heap_alloc _ _ _ hk)⟩,Below.alloc (Below.trans h5.out.drew (b2.mono h5.out.size)) hz _⟩
  ·have bW:Below w.heap.size w W2:=Below.trans (Below.alloc h5.out.drew h5.out.size _) (b2.mono (Nat.le_trans h5.out.size (by simp)));have set_two_at:∀ k,k < W2.heap.size->k≠W1.heap.size->((W2.setCell ⟨W1.heap.size,0,none⟩ (.int .i64 0)).setCell ⟨W1.heap.size,1,none⟩ (.int .i64 0)).heap[k]?=W2.heap[k]?:=fun k _ hk=>bCO k hk;exact⟨⟨aX,rfl,PgW.off h9 q0 set_two_at⟩,(bW.setCell (p:=⟨W1.heap.size,0,none⟩) h5.out.size _).setCell (p:=⟨W1.heap.size,1,none⟩) h5.out.size _⟩
 case rest=>as_aux_lemma=>
 obtain⟨⟨aA,rfl,k0⟩,hBA⟩:=hcut;have g2:Hid _:=k0;have h8:Hid _:=hBA;clear k0 hBA
 rename World=>wA
 go_upto_region 6 with fail
 go_cut [17,18]from 33 (fun p f w'=>(∃ ab,p= .pointer (some ⟨ab,0,none⟩)/\PgW ab (txB i j) w')/\PgW aA (txA i j) w'/\Below w.heap.size w w')
 case first=>as_aux_lemma=>
  rename_i J K' hJ hK;have y1:(0:Int)<=(i:Int):=h3.1;have y2:(i:Int)<=(i:Int)+1:=by omega
  have y3:(i:Int)+1<=5:=by omega
  have y4:(0:Int)<=(j:Int):=j7.1;have y5:(j:Int)<=(j:Int)+1:=by omega
  have y6:(j:Int)+1<=5:=by omega
  have y7:(0:Int)<=(i:Int)+1:=by omega
  have y8:(0:Int)<=(j:Int)+1:=by omega
  have yi:((i:Int)+1).toNat=i+1:=by omega
  have yj:((j:Int)+1).toNat=j+1:=by omega
  have yk:i+1<=5:=by omega
  have yl:j+1<=5:=by omega
  have k7:∀ w',Below w.heap.size w w'->Calls Tryz.prog 19 #[.string (txB i j)] w' fun e w2=>∃ ab,e= .returned (.tuple #[.pointer (some ⟨ab,0,none⟩),.agg #[.int .i64 0,.int .i64 0]])/\PgW ab (txB i j) w2/\Below w'.heap.size w' w2:=fun w' h=>bDP w' (HT.out _ h) k2.out.2 k2.out.1;have y9:txB i j=({data:=#[102,110,32,109,97,105,110,40,97,44,32,98,44,32,99,41,32,123,32,114,101,116,117,114,110,32,97,32]}:ByteArray)++({data:=#[43,45,42,47,37]}:ByteArray).extract i (i+1)++({data:=#[32,40,98,32]}:ByteArray)++({data:=#[43,45,42,47,37]}:ByteArray).extract j (j+1)++({data:=#[32,99,41,59,32,125]}:ByteArray):=rfl;generalize txB i j=sX at*;clear HA HB HC k3 k2 k1
  go_region_held3 (fun w'=>True) (trivial)
   ((go_at_call 19;rw[<-y9];refine(k7 _ (by first|exact h8.out.drew|exact Below.alloc h8.out.drew h8.out.size _)).mono ?_;rintro e W2 ⟨aX,rfl,h9,b2⟩;try (have q0:W2.heap[wA.heap.size]?=some (.cells #[.int .i64 0,.int .i64 0] 37 (0,0)):=(b2.block _ (by simp)).trans (heap_alloc_new wA.drew _);obtain⟨c0,c1,cz⟩:=iV q0)))
  all_goals (first|refine hK _ _ (Met.intro (hJ _ _ ?_))|refine Met.intro (hJ _ _ ?_)|refine hJ _ _ ?_)
  all_goals (repeat apply Exists.intro)
  all_goals refine⟨?_,rfl⟩
  ·have hz:w.heap.size<=W2.heap.size:=Nat.le_trans h8.out.size b2.size;exact⟨⟨aX,rfl,h9.next (fun k hk=>Below.heap_alloc _ _ _ hk)⟩,PgW.next (PgW.next (w':=W2) g2.out (fun k hk=>b2.block k hk)) (fun k hk=>Below.heap_alloc _ _ _ hk),Below.alloc (Below.trans h8.out.drew (b2.mono h8.out.size)) hz _⟩
  ·have bW:Below w.heap.size w W2:=Below.trans (Below.alloc h8.out.drew h8.out.size _) (b2.mono (Nat.le_trans h8.out.size (by simp)));have set_two_at:∀ k,k < W2.heap.size->k≠wA.heap.size->((W2.setCell ⟨wA.heap.size,0,none⟩ (.int .i64 0)).setCell ⟨wA.heap.size,1,none⟩ (.int .i64 0)).heap[k]?=W2.heap[k]?:=fun k _ hk=>bCO k hk;exact⟨⟨aX,rfl,PgW.off h9 q0 set_two_at⟩,PgW.off (PgW.next (w':=W2) g2.out (fun k hk=>(b2.block k (Nat.lt_trans hk (by simp))).trans (Below.heap_alloc wA.drew _ _ hk))) q0 set_two_at,(bW.setCell (p:=⟨wA.heap.size,0,none⟩) h8.out.size _).setCell (p:=⟨wA.heap.size,1,none⟩) h8.out.size _⟩
 case rest=>as_aux_lemma=>
 obtain⟨⟨aB,rfl,y0⟩,k0,m9⟩:=hcut;have k4:Hid _:=k0;have g1:Hid _:=y0;have h7:Hid _:=m9;clear k0 y0 m9 g2
 rename World=>wB
 go_upto_region 7 with fail
 go_cut [19,20]from 33 (fun p f w'=>(∃ ab,p= .pointer (some ⟨ab,0,none⟩)/\PgW ab (txC i j) w')/\PgW aA (txA i j) w'/\PgW aB (txB i j) w'/\Below w.heap.size w w')
 case first=>as_aux_lemma=>
  rename_i J K' hJ hK;have y1:(0:Int)<=(i:Int):=h3.1;have y2:(i:Int)<=(i:Int)+1:=by omega
  have y3:(i:Int)+1<=5:=by omega
  have y4:(0:Int)<=(j:Int):=j7.1;have y5:(j:Int)<=(j:Int)+1:=by omega
  have y6:(j:Int)+1<=5:=by omega
  have y7:(0:Int)<=(i:Int)+1:=by omega
  have y8:(0:Int)<=(j:Int)+1:=by omega
  have yi:((i:Int)+1).toNat=i+1:=by omega
  have yj:((j:Int)+1).toNat=j+1:=by omega
  have yk:i+1<=5:=by omega
  have yl:j+1<=5:=by omega
  have k7:∀ w',Below w.heap.size w w'->Calls Tryz.prog 19 #[.string (txC i j)] w' fun e w2=>∃ ab,e= .returned (.tuple #[.pointer (some ⟨ab,0,none⟩),.agg #[.int .i64 0,.int .i64 0]])/\PgW ab (txC i j) w2/\Below w'.heap.size w' w2:=fun w' h=>bDP w' (HT.out _ h) k1.out.2 k1.out.1;have y9:txC i j=({data:=#[102,110,32,109,97,105,110,40,97,44,32,98,44,32,99,41,32,123,32,114,101,116,117,114,110,32,97,32]}:ByteArray)++({data:=#[43,45,42,47,37]}:ByteArray).extract i (i+1)++({data:=#[32,98,32]}:ByteArray)++({data:=#[43,45,42,47,37]}:ByteArray).extract j (j+1)++({data:=#[32,99,59,32,125]}:ByteArray):=rfl;generalize txC i j=sX at*;clear HA HB HC k3 k2 k1
  go_region_held3 (fun w'=>True) (trivial)
   ((go_at_call 19;rw[<-y9];refine(k7 _ (by first|exact h7.out.drew|exact Below.alloc h7.out.drew h7.out.size _)).mono ?_;rintro e W2 ⟨aX,rfl,h9,b2⟩;try (have q0:W2.heap[wB.heap.size]?=some (.cells #[.int .i64 0,.int .i64 0] 37 (0,0)):=(b2.block _ (by simp)).trans (heap_alloc_new wB.drew _);obtain⟨c0,c1,cz⟩:=iV q0)))
  all_goals (first|refine hK _ _ (Met.intro (hJ _ _ ?_))|refine Met.intro (hJ _ _ ?_)|refine hJ _ _ ?_)
  all_goals (repeat apply Exists.intro)
  all_goals refine⟨?_,rfl⟩
  ·have hz:w.heap.size<=W2.heap.size:=Nat.le_trans h7.out.size b2.size;exact⟨⟨aX,rfl,h9.next (fun k hk=>Below.heap_alloc _ _ _ hk)⟩,PgW.next (PgW.next (w':=W2) k4.out (fun k hk=>b2.block k hk)) (fun k hk=>Below.heap_alloc _ _ _ hk),PgW.next (PgW.next (w':=W2) g1.out (fun k hk=>b2.block k hk)) (fun k hk=>Below.heap_alloc _ _ _ hk),Below.alloc (Below.trans h7.out.drew (b2.mono h7.out.size)) hz _⟩
  ·have bW:Below w.heap.size w W2:=Below.trans (Below.alloc h7.out.drew h7.out.size _) (b2.mono (Nat.le_trans h7.out.size (by simp)));have set_two_at:∀ k,k < W2.heap.size->k≠wB.heap.size->((W2.setCell ⟨wB.heap.size,0,none⟩ (.int .i64 0)).setCell ⟨wB.heap.size,1,none⟩ (.int .i64 0)).heap[k]?=W2.heap[k]?:=fun k _ hk=>bCO k hk;exact⟨⟨aX,rfl,PgW.off h9 q0 set_two_at⟩,PgW.off (PgW.next (w':=W2) k4.out (fun k hk=>(b2.block k (Nat.lt_trans hk (by simp))).trans (Below.heap_alloc wB.drew _ _ hk))) q0 set_two_at,PgW.off (PgW.next (w':=W2) g1.out (fun k hk=>(b2.block k (Nat.lt_trans hk (by simp))).trans (Below.heap_alloc wB.drew _ _ hk))) q0 set_two_at,(bW.setCell (p:=⟨wB.heap.size,0,none⟩) h7.out.size _).setCell (p:=⟨wB.heap.size,1,none⟩) h7.out.size _⟩
 case rest=>as_aux_lemma=>
 obtain⟨⟨aC,rfl,g9⟩,k0,y0,j9⟩:=hcut
 rename World=>wC
 clear k4 g1 h8 h7;have m5:=j9.size;obtain⟨oX,j3⟩:∃ o:Obj,o= .cells #[.int .i64 a,.int .i64 b,.int .i64 c] 2:=⟨_,rfl⟩;have n1:∀ k,k < wC.heap.size->(wC.alloc oX).heap[k]?=wC.heap[k]?:=fun k hk=>Below.heap_alloc _ _ _ hk;have a1:xK (wC.alloc oX) (.slice (some ⟨wC.heap.size,0,none⟩) 3 3) [a,b,c]:=aF8 (cs:=#[.int .i64 a,.int .i64 b,.int .i64 c]) (t:=2) (by rw[j3];exact heap_alloc_new wC _) rfl rfl;have j0:=aA5 (k0.next n1) (by rw[k3.out.1]) a1 9;rw[HA.out]at j0;have B1:Below w.heap.size w (wC.alloc oX):=j9.alloc m5 _;have z4:Hid _:=y0.next n1;have z0:Hid _:=g9.next n1;have h5:Hid _:=B1;have d8:w.heap.size<=(wC.alloc oX).heap.size:=B1.size;clear k0 y0 g9 j9 n1 a1 B1 HA;go_wp2_with fail
 rw[<-j3];generalize wC.alloc oX=w1 at*;refine j0.mono ?_;rintro e w2 hpost;obtain⟨v1,rfl,g8,b2⟩:=hpost.rs;have g5:=g8;generalize m8:bDX (i:Int) (j:Int) a b c=RL at*;obtain⟨vO,rfl,h4⟩:=g8;obtain⟨so,sn,sc,rfl⟩:∃ a n p,vO= .slice a n p:=by obtain⟨ao,cp,e,_⟩:=h4;exact⟨_,_,_,e⟩
 clear hpost j0 h4;obtain⟨oL,j6⟩:∃ o:Obj,o= .cells #[.int .i64 RL.fin,.int .i64 RL.value,.int .i64 RL.site,.slice so sn sc] 42:=⟨_,rfl⟩
 have kL:(w2.alloc oL).heap[w2.heap.size]?=some (.cells #[.int .i64 RL.fin,.int .i64 RL.value,.int .i64 RL.site,.slice so sn sc] 42 (0,0)):=by
  rw[j6];exact heap_alloc_new w2 _
 have nL:∀ k,k < w2.heap.size->(w2.alloc oL).heap[k]?=w2.heap[k]?:=fun k hk=>Below.heap_alloc _ _ _ hk;have B3:Below w.heap.size w (w2.alloc oL):=(h5.out.trans (b2.mono d8)).alloc (by have:=b2.size;omega) _;have k9:=(PgW.next z4.out (fun k hk=>b2.block k hk)).next nL;have k8:=(PgW.next z0.out (fun k hk=>b2.block k hk)).next nL;have rL3:=R4W.next g5 nL;have m4:w2.heap.size < (w2.alloc oL).heap.size:=by simp
 have HK3:Hid _:=kL;have HP3:Hid _:=k9;have HQ3:Hid _:=k8;have HR3:Hid _:=rL3;have HB3:Hid _:=B3;have d7:=B3.size;clear kL nL k9 k8 rL3 B3 g5 z4 z0 h5 b2;go_upto_region 11 with fail
 rw[<-j6];clear j6;generalize w2.alloc oL=w3 at*;obtain⟨oY,j2⟩:∃ o:Obj,o= .cells #[.int .i64 a,.int .i64 b,.int .i64 c] 2:=⟨_,rfl⟩;have n4:∀ k,k < w3.heap.size->(w3.alloc oY).heap[k]?=w3.heap[k]?:=fun k hk=>Below.heap_alloc _ _ _ hk;have a4:xK (w3.alloc oY) (.slice (some ⟨w3.heap.size,0,none⟩) 3 3) [a,b,c]:=aF8 (cs:=#[.int .i64 a,.int .i64 b,.int .i64 c]) (t:=2) (by rw[j2];exact heap_alloc_new w3 _) rfl rfl;have z9:=aA5 (PgW.next HP3.out n4) (by rw[k2.out.1]) a4 9;rw[HB.out]at z9;have B4:Below w.heap.size w (w3.alloc oY):=HB3.out.alloc d7 _;have HQ4:Hid _:=PgW.next HQ3.out n4;have HK4:Hid _:=(n4 w2.heap.size m4).trans HK3.out;have HR4:Hid _:=R4W.next HR3.out n4;have HB4:Hid _:=B4;have d6:=B4.size;have m3:w2.heap.size < (w3.alloc oY).heap.size:=by simp;omega
 clear n4 a4 B4 HB HP3 HQ3 HK3 HR3 HB3;go_wp2_with fail
 rw[<-j2];generalize w3.alloc oY=w4 at*;refine z9.mono ?_;rintro e w5 hpost;obtain⟨v2,rfl,g7,b5⟩:=hpost.rs;have g4:=g7;generalize m6:bDW (i:Int) (j:Int) a b c=RR at*;obtain⟨vO,rfl,h4⟩:=g7;obtain⟨to,tn,tc,rfl⟩:∃ a n p,vO= .slice a n p:=by obtain⟨ao,cp,e,_⟩:=h4;exact⟨_,_,_,e⟩
 clear hpost z9 h4;obtain⟨oR,j4⟩:∃ o:Obj,o= .cells #[.int .i64 RR.fin,.int .i64 RR.value,.int .i64 RR.site,.slice to tn tc] 42:=⟨_,rfl⟩
 have kR:(w5.alloc oR).heap[w5.heap.size]?=some (.cells #[.int .i64 RR.fin,.int .i64 RR.value,.int .i64 RR.site,.slice to tn tc] 42 (0,0)):=by
  rw[j4];exact heap_alloc_new w5 _
 have nR:∀ k,k < w5.heap.size->(w5.alloc oR).heap[k]?=w5.heap[k]?:=fun k hk=>Below.heap_alloc _ _ _ hk;have B6:Below w.heap.size w (w5.alloc oR):=(HB4.out.trans (b5.mono d6)).alloc (by have:=b5.size;omega) _;have hs5:=b5.size;have HQ6:Hid _:=(PgW.next HQ4.out (fun k hk=>b5.block k hk)).next nR;have HK6:Hid _:=((nR w2.heap.size (by omega)).trans (b5.block _ m3)).trans HK4.out;have HR6:Hid _:=R4W.next (R4W.next HR4.out (fun k hk=>b5.block k hk)) nR;have HS6:Hid _:=R4W.next g4 nR;have HL6:Hid _:=kR;have HB6:Hid _:=B6;have d5:=B6.size;have m2:w5.heap.size < (w5.alloc oR).heap.size:=by simp
 have m1:w2.heap.size < (w5.alloc oR).heap.size:=by simp;omega
 clear kR nR B6 g4 b5 HQ4 HK4 HR4 HB4;go_upto_region 12 with fail
 rw[<-j4];clear j4;generalize w5.alloc oR=w6 at*;obtain⟨oZ,j1⟩:∃ o:Obj,o= .cells #[.int .i64 a,.int .i64 b,.int .i64 c] 2:=⟨_,rfl⟩;have n7:∀ k,k < w6.heap.size->(w6.alloc oZ).heap[k]?=w6.heap[k]?:=fun k hk=>Below.heap_alloc _ _ _ hk;have a7:xK (w6.alloc oZ) (.slice (some ⟨w6.heap.size,0,none⟩) 3 3) [a,b,c]:=aF8 (cs:=#[.int .i64 a,.int .i64 b,.int .i64 c]) (t:=2) (by rw[j1];exact heap_alloc_new w6 _) rfl rfl;have z8:=aA5 (PgW.next HQ6.out n7) (by rw[k1.out.1]) a7 9;rw[HC.out]at z8;have B7:Below w.heap.size w (w6.alloc oZ):=HB6.out.alloc d5 _;have HK7:Hid _:=(n7 w2.heap.size m1).trans HK6.out;have HL7:Hid _:=(n7 w5.heap.size m2).trans HL6.out;have HR7:Hid _:=R4W.next HR6.out n7;have HS7:Hid _:=R4W.next HS6.out n7;have HB7:Hid _:=B7;have d4:=B7.size;have m0:w2.heap.size < (w6.alloc oZ).heap.size:=by simp;omega
 have d9:w5.heap.size < (w6.alloc oZ).heap.size:=by simp;omega
 clear n7 a7 B7 HC HQ6 HK6 HL6 HR6 HS6 HB6;go_wp2_with fail
 rw[<-j1];generalize w6.alloc oZ=w7 at*;refine z8.mono ?_;rintro e w8 hpost;obtain⟨v3,rfl,g6,b8⟩:=hpost.rs;have g3:=g6;generalize m7:(if i < 2/\1 < j then RR else RL)=RN at*;obtain⟨vO,rfl,h4⟩:=g6;obtain⟨uo,un,uc,rfl⟩:∃ a n p,vO= .slice a n p:=by obtain⟨ao,cp,e,_⟩:=h4;exact⟨_,_,_,e⟩
 clear hpost z8 h4;obtain⟨oN,j5⟩:∃ o:Obj,o= .cells #[.int .i64 RN.fin,.int .i64 RN.value,.int .i64 RN.site,.slice uo un uc] 42:=⟨_,rfl⟩
 have kN:(w8.alloc oN).heap[w8.heap.size]?=some (.cells #[.int .i64 RN.fin,.int .i64 RN.value,.int .i64 RN.site,.slice uo un uc] 42 (0,0)):=by
  rw[j5];exact heap_alloc_new w8 _
 have nN:∀ k,k < w8.heap.size->(w8.alloc oN).heap[k]?=w8.heap[k]?:=fun k hk=>Below.heap_alloc _ _ _ hk;have hs8:=b8.size;have B9:Below w.heap.size w (w8.alloc oN):=(HB7.out.trans (b8.mono d4)).alloc (by omega) _;have K9:=((nN w2.heap.size (by omega)).trans (b8.block _ m0)).trans HK7.out;have L9:=((nN w5.heap.size (by omega)).trans (b8.block _ d9)).trans HL7.out;have R9:=R4W.next (R4W.next HR7.out (fun k hk=>b8.block k hk)) nN;have S9:=R4W.next (R4W.next HS7.out (fun k hk=>b8.block k hk)) nN;have T9:=R4W.next g3 nN;have z1:w2.heap.size < (w8.alloc oN).heap.size:=by simp;omega
 have z2:w5.heap.size < (w8.alloc oN).heap.size:=by simp;omega
 have z3:w8.heap.size < (w8.alloc oN).heap.size:=by simp
 have HF:Hid (∀ w',Below (w8.alloc oN).heap.size (w8.alloc oN) w'->
  (w'.heap[w2.heap.size]?=some (.cells #[.int .i64 RL.fin,.int .i64 RL.value,.int .i64 RL.site,.slice so sn sc] 42 (0,0))/\
   w'.heap[w5.heap.size]?=some (.cells #[.int .i64 RR.fin,.int .i64 RR.value,.int .i64 RR.site,.slice to tn tc] 42 (0,0))/\
   w'.heap[w8.heap.size]?=some (.cells #[.int .i64 RN.fin,.int .i64 RN.value,.int .i64 RN.site,.slice uo un uc] 42 (0,0)))/\
  (R4W w' RL (.agg #[.int .i64 RL.fin,.int .i64 RL.value,.int .i64 RL.site,.slice so sn sc])/\
   R4W w' RR (.agg #[.int .i64 RR.fin,.int .i64 RR.value,.int .i64 RR.site,.slice to tn tc])/\
   R4W w' RN (.agg #[.int .i64 RN.fin,.int .i64 RN.value,.int .i64 RN.site,.slice uo un uc]))/\Below w.heap.size w w'):=fun w' hb=>
  ⟨⟨(hb.block _ z1).trans K9,(hb.block _ z2).trans L9,(hb.block _ z3).trans kN⟩,⟨R4W.next R9 (fun k hk=>hb.block k hk),R4W.next S9 (fun k hk=>hb.block k hk),R4W.next T9 (fun k hk=>hb.block k hk)⟩,B9.trans (hb.mono B9.size)⟩
 have z6:Hid (isB RL ((opW i a b).2&&(opW j (opW i a b).1 c).2) (opW j (opW i a b).1 c).1 (if(opW i a b).2 then bDM i else 0)=true):=by rw[Hid,<-m8];exact isL
 have z5:Hid (isB RR ((opW j b c).2&&(opW i a (opW j b c).1).2) (opW i a (opW j b c).1).1 (if(opW j b c).2 then 0 else bDM i)=true):=by rw[Hid,<-m6];exact isR
 have g0:Hid _:=m7;clear kN nN B9 K9 L9 R9 S9 T9 g3 b8 HK7 HL7 HR7 HS7 HB7 k3 k2 k1 m8 m6 m7 hs8 hs5 z1 z2 z3 m4 m3 m2 m1 m0 d9 d8 d7 d6 d5 d4 m5 j3 j2 j1 HT h5 h0;go_upto_region 13 with fail
 rw[<-j5];clear j5;generalize w8.alloc oN=w9 at*;have b99:Below w9.heap.size w9 w9:=Below.refl _ _;have d3:=bDN i hi a b w9;generalize hq1:opW (i:Int) a b=q1 at*;obtain⟨v1,one⟩:=q1;dsimp only at*;have d2:=bDN j hj v1 c w9;generalize hq2:opW (j:Int) v1 c=q2 at*;obtain⟨v2,two⟩:=q2;dsimp only at*;go_wp2_with fail
 refine d3.mono ?_;rintro e w9 ⟨rfl,rfl⟩;go_wp2_with fail
 refine d2.mono ?_;rintro e w9 ⟨rfl,rfl⟩;clear d3 d2 hq1 hq2;go_upto_if 139 with fail
 go_cut [28]from 33 (fun s w'=>s= .int .i64 (bDM i)/\w9=w')
 case first=>as_aux_lemma=>
  by_cases h:2 < (i:Int)
  ·have t:decide (2 < (i:Int))=true:=by simp;omega
   have hs:Hid (bDM i=1):=by rw[Hid];unfold bDM;rw[if_pos (by omega)]
   go_wp2;go_meet
   case rel=>exact⟨by rw[hs.out],rfl⟩
  ·have t:decide (2 < (i:Int))=false:=by simp;omega
   have hs:Hid (bDM i=0):=by rw[Hid];unfold bDM;rw[if_neg (by omega)]
   go_wp2;go_meet
   case rel=>exact⟨by rw[hs.out],rfl⟩
 case rest=>as_aux_lemma=>
 obtain⟨rfl,k5⟩:=hcut;subst k5;go_upto_if 140 with fail
 go_cut [29]from 33 (fun s w'=>s= .int .i64 (bE4 one (bDM i) 0)/\w9=w')
 case first=>as_aux_lemma=>
  cases one
  ·go_wp2;go_meet
   case rel=>exact⟨rfl,rfl⟩
  ·go_wp2;go_meet
   case rel=>exact⟨rfl,rfl⟩
 case rest=>as_aux_lemma=>
 obtain⟨rfl,k5⟩:=hcut;subst k5;go_upto_region 21 with fail
 go_cut [30]from 33 (fun s w'=>s= .bool true/\Below w9.heap.size w9 w')
 case first=>as_aux_lemma=>
  cases one<;>cases two
  ·have hb:isB RL false v2 (0)=true:=z6.out;have h3:=aNS RL (.agg #[.int .i64 RL.fin,.int .i64 RL.value,.int .i64 RL.site,.slice so sn sc]) false v2 (0) w9 (HF.out w9 b99).2.1.1;rw[hb]at h3;obtain⟨p0,p1,p2,p3,_⟩:=dP (HF.out w9 b99).1.1;go_wp2_with fail
   refine h3.mono ?_;rintro e wz ⟨rfl,bz⟩;have h6:Below w9.heap.size w9 wz:=b99.trans (bz.mono b99.size);clear h3 bz p0 p1 p2 p3;go_wp2;go_meet
   case rel=>exact⟨rfl,h6⟩
  ·have hb:isB RL false v2 (0)=true:=z6.out;have h3:=aNS RL (.agg #[.int .i64 RL.fin,.int .i64 RL.value,.int .i64 RL.site,.slice so sn sc]) false v2 (0) w9 (HF.out w9 b99).2.1.1;rw[hb]at h3;obtain⟨p0,p1,p2,p3,_⟩:=dP (HF.out w9 b99).1.1;go_wp2_with fail
   refine h3.mono ?_;rintro e wz ⟨rfl,bz⟩;have h6:Below w9.heap.size w9 wz:=b99.trans (bz.mono b99.size);clear h3 bz p0 p1 p2 p3;go_wp2;go_meet
   case rel=>exact⟨rfl,h6⟩
  ·have hb:isB RL false v2 (bDM i)=true:=z6.out;have h3:=aNS RL (.agg #[.int .i64 RL.fin,.int .i64 RL.value,.int .i64 RL.site,.slice so sn sc]) false v2 (bDM i) w9 (HF.out w9 b99).2.1.1;rw[hb]at h3;obtain⟨p0,p1,p2,p3,_⟩:=dP (HF.out w9 b99).1.1;go_wp2_with fail
   refine h3.mono ?_;rintro e wz ⟨rfl,bz⟩;have h6:Below w9.heap.size w9 wz:=b99.trans (bz.mono b99.size);clear h3 bz p0 p1 p2 p3;go_wp2;go_meet
   case rel=>exact⟨rfl,h6⟩
  ·have hb:isB RL true v2 (bDM i)=true:=z6.out;have h3:=aNS RL (.agg #[.int .i64 RL.fin,.int .i64 RL.value,.int .i64 RL.site,.slice so sn sc]) true v2 (bDM i) w9 (HF.out w9 b99).2.1.1;rw[hb]at h3;obtain⟨p0,p1,p2,p3,_⟩:=dP (HF.out w9 b99).1.1;go_wp2_with fail
   refine h3.mono ?_;rintro e wz ⟨rfl,bz⟩;have h6:Below w9.heap.size w9 wz:=b99.trans (bz.mono b99.size);clear h3 bz p0 p1 p2 p3;go_wp2;go_meet
   case rel=>exact⟨rfl,h6⟩
 case rest=>as_aux_lemma=>
 obtain⟨rfl,b10⟩:=hcut
 rename World=>w10
 have d1:=bDN j hj b c w10;generalize hq3:opW (j:Int) b c=q3 at*;obtain⟨v3,one'⟩:=q3;dsimp only at*;have d0:=bDN i hi a v3 w10;generalize hq4:opW (i:Int) a v3=q4 at*;obtain⟨v4,two'⟩:=q4;dsimp only at*;go_wp2_with fail
 refine d1.mono ?_;rintro e w10 ⟨rfl,rfl⟩;go_wp2_with fail
 refine d0.mono ?_;rintro e w10 ⟨rfl,rfl⟩;clear d1 d0 hq3 hq4;go_upto_if 165 with fail
 go_cut [29]from 33 (fun s w'=>s= .int .i64 (bE4 one' 0 (bDM i))/\w10=w')
 case first=>as_aux_lemma=>
  cases one'
  ·go_wp2;go_meet
   case rel=>exact⟨rfl,rfl⟩
  ·go_wp2;go_meet
   case rel=>exact⟨rfl,rfl⟩
 case rest=>as_aux_lemma=>
 obtain⟨rfl,k5⟩:=hcut;subst k5;go_upto_region 27 with fail
 go_cut [31]from 33 (fun s w'=>s= .bool true/\Below w9.heap.size w9 w')
 case first=>as_aux_lemma=>
  cases one'<;>cases two'
  ·have hb:isB RR false v4 (bDM i)=true:=z5.out;have h3:=aNS RR (.agg #[.int .i64 RR.fin,.int .i64 RR.value,.int .i64 RR.site,.slice to tn tc]) false v4 (bDM i) w10 (HF.out w10 b10).2.1.2.1;rw[hb]at h3;obtain⟨p0,p1,p2,p3,_⟩:=dP (HF.out w10 b10).1.2.1;go_wp2_with fail
   refine h3.mono ?_;rintro e wz ⟨rfl,bz⟩;have h6:Below w9.heap.size w9 wz:=b10.trans (bz.mono b10.size);clear h3 bz p0 p1 p2 p3;go_wp2;go_meet
   case rel=>exact⟨rfl,h6⟩
  ·have hb:isB RR false v4 (bDM i)=true:=z5.out;have h3:=aNS RR (.agg #[.int .i64 RR.fin,.int .i64 RR.value,.int .i64 RR.site,.slice to tn tc]) false v4 (bDM i) w10 (HF.out w10 b10).2.1.2.1;rw[hb]at h3;obtain⟨p0,p1,p2,p3,_⟩:=dP (HF.out w10 b10).1.2.1;go_wp2_with fail
   refine h3.mono ?_;rintro e wz ⟨rfl,bz⟩;have h6:Below w9.heap.size w9 wz:=b10.trans (bz.mono b10.size);clear h3 bz p0 p1 p2 p3;go_wp2;go_meet
   case rel=>exact⟨rfl,h6⟩
  ·have hb:isB RR false v4 (0)=true:=z5.out;have h3:=aNS RR (.agg #[.int .i64 RR.fin,.int .i64 RR.value,.int .i64 RR.site,.slice to tn tc]) false v4 (0) w10 (HF.out w10 b10).2.1.2.1;rw[hb]at h3;obtain⟨p0,p1,p2,p3,_⟩:=dP (HF.out w10 b10).1.2.1;go_wp2_with fail
   refine h3.mono ?_;rintro e wz ⟨rfl,bz⟩;have h6:Below w9.heap.size w9 wz:=b10.trans (bz.mono b10.size);clear h3 bz p0 p1 p2 p3;go_wp2;go_meet
   case rel=>exact⟨rfl,h6⟩
  ·have hb:isB RR true v4 (0)=true:=z5.out;have h3:=aNS RR (.agg #[.int .i64 RR.fin,.int .i64 RR.value,.int .i64 RR.site,.slice to tn tc]) true v4 (0) w10 (HF.out w10 b10).2.1.2.1;rw[hb]at h3;obtain⟨p0,p1,p2,p3,_⟩:=dP (HF.out w10 b10).1.2.1;go_wp2_with fail
   refine h3.mono ?_;rintro e wz ⟨rfl,bz⟩;have h6:Below w9.heap.size w9 wz:=b10.trans (bz.mono b10.size);clear h3 bz p0 p1 p2 p3;go_wp2;go_meet
   case rel=>exact⟨rfl,h6⟩
 case rest=>as_aux_lemma=>
 obtain⟨rfl,b11⟩:=hcut
 rename World=>w11
 obtain⟨⟨kL,kR,kN⟩,⟨rL,rR,rN⟩,b0⟩:=HF.out w11 b11
 obtain⟨c,hc⟩:∃ c:Bool,c=true↔RN=RL:=by
  by_cases h:RN=RL
  ·exact⟨true,by simp[h]⟩
  ·exact⟨false,by simp[h]⟩
 have k6:=bD9 RN RL _ _ w11 rN rL c hc;obtain⟨p0,p1,p2,p3,_⟩:=dP kL;obtain⟨q0,q1,q2,q3,_⟩:=dP kN;have HC:Hid _:=hc;clear kL kR kN rL rR rN hc;go_wp2_with fail
 refine k6.mono ?_;rintro e w12 ⟨rfl,b12⟩;have b13:Below w9.heap.size w9 w12:=b11.trans (b12.mono b11.size);obtain⟨⟨kL,kR,kN⟩,⟨rL,rR,rN⟩,b0⟩:=HF.out w12 b13;have z7:Hid (Below w.heap.size w w12):=b0;clear k6 p0 p1 p2 p3 q0 q1 q2 q3 b12;obtain⟨p0,p1,p2,p3,_⟩:=dP kR;obtain⟨q0,q1,q2,q3,_⟩:=dP kN
 by_cases h1:i < 2
 ·have t1:decide ((i:Int) < 2)=true:=by simp;omega
  by_cases h2:1 < j
  ·have t2:decide (1 < (j:Int))=true:=by simp;omega
   have hN:RN=RR:=by rw[<-g0.out,if_pos ⟨h1,h2⟩]
   have k6:=bD9 RN RR _ _ w12 rN rR true (by simp[hN]);clear kL kR kN rL rR rN hN h1 h2;go_wp2_with fail
   refine k6.mono ?_;rintro e w14 ⟨rfl,b14⟩;have h5:Hid (Below w.heap.size w w14):=z7.out.trans (b14.mono z7.out.size);clear k6 b14 p0 p1 p2 p3 q0 q1 q2 q3;go_wp2;go_ret;exact⟨rfl,h5.out⟩
  ·have t2:decide (1 < (j:Int))=false:=by simp;omega
   have j8:c=true:=HC.out.2 (by rw[<-g0.out,if_neg (fun h=>h2 h.2)]);subst j8;clear kL kR kN rL rR rN h1 h2;go_wp2;go_ret;exact⟨rfl,z7.out⟩
 ·have t1:decide ((i:Int) < 2)=false:=by simp;omega
  have j8:c=true:=HC.out.2 (by rw[<-g0.out,if_neg (fun h=>h1 h.1)]);subst j8;clear kL kR kN rL rR rN h1;go_wp2;go_ret;exact⟨rfl,z7.out⟩
end Go.Proofs.YtikffmloeifkpaaGreatDoor
