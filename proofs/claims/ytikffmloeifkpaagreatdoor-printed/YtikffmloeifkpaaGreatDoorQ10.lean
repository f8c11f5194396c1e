/- Contracts. -/
import Derived.Test.YtikffmloeifkpaaGreatDoorQ09
import Derived.Test.YtikffmloeifkpaaGreatDoorQ05
set_option maxHeartbeats 8000000
set_option maxRecDepth 100000
namespace Go.Proofs.YtikffmloeifkpaaGreatDoor
open Go.RowKit Go.Lib Go.Deep
theorem aGL(t:Tok)(w:World):(Instr.field 143 (.agg #[.int .i64 t.kind,.int .i64 t.pos,.string t.text,.int .i64 t.value]) 0).run Tryz.prog w= .ok (.int .i64 t.kind) w:=by kernel_rfl
theorem nS{T:List Tok}(he:cY T):aZ T (fQ T):=fun r h=>by
 have a1:=aP he h (show aQ [1] 0=false by decide);have a2:=a1.trans (aP he a1.lt (show aQ [2] 0=false by decide));exact a2.trans (aP he a2.lt (show aQ [19] 0=false by decide))
theorem jX{T:List Tok}(he:cY T){B:Pr}(hB:aZ T B)(n:Nat):aZ T (cZ T B n):=fun r h=>by
 rw[mN];have a1:=aP he h (show aQ [1] 0=false by decide);obtain⟨o1,o2,o3⟩:=dF he a1.lt (show aQ [12] 0=false by decide);have a2:=a1.trans (lC he o1 o3 (bCX he n _ o2) (show aQ [13] 0=false by decide));have a3:=a2.trans (oM he n _ a2.lt);exact a3.trans (hB _ a3.lt)
theorem aIV{T:List Tok}(he:cY T){r:Rd}(h:r.next < T.length)(hs:aN T r [0]=false):r.next+1 < T.length:=by
 have hne:r.next≠T.length - 1:=by
  intro e;unfold aN dD at hs;rw[e,he]at hs;exact absurd hs Ob
 omega
def aP1(T:List Tok)(g cap b:Nat)(w:World)(q:Rd × Tr):Ending->World->Prop:=
 fun e w'=>∃ v acc,e= .returned (.pointer (some ⟨w.heap.size,0,none⟩))/\er acc=q.2/\Prg T g cap b w.heap.size w v acc q.1 w'
theorem aDU(T:List Tok)(g cap b n:Nat)(B:Pr)(r:Rd)(w:World)(hB:dI T g cap b 192 B (Dm T n 6))(j5:aZ T B)(j4:SoL B)(h:RdW T g cap b r w)(hd:T.length*16+6 < n)(hd2:n+1<=1000000)(h0:r.nest=0):
 Calls Tryz.prog 71 #[.pointer (some ⟨b,0,none⟩)] w (aP1 T g cap b w (aJ T B n n r)):=by
 have HB:Hid (dI T g cap b 192 B (Dm T n 6)):=hB;have z0:Hid (aZ T B):=j5;have y9:Hid (SoL B):=j4;clear hB j5 j4;obtain⟨i0,j3,z7,z6,z5⟩:=info_parts Tryz.infoI;have h2:=h.ends;have hfew:=h.few;have j6:∀ rc:Rd,rc.nest=0->Dm T n 6 rc/\rc.nest+1+n<=1000000:=fun rc hn=>⟨⟨Oa,Oa,Oa⟩,Oa⟩;have z1:Hid _:=j6;clear j6
 have PS:Prg T g cap b w.heap.size w (.slice none 0 0) .nil r (w.alloc (.cells (qW (.slice none 0 0)) 111)):=
  ⟨World.ownsRow_nil _ _ _ _,fun _=>rfl,fun h=>absurd rfl h,trivial,New.nil _ _,fun k hk=>by simp[Value.ownBlock]at hk,h.alloc _,(Ex.refl b w).alloc _,Qb w _,Qc _,trivial,Qe _,h0⟩
 have y5:Hid _:=PS;clear PS;unfold qW at y5;go_enter Tryz.func71,Tryz.ntmps71
 go_wp2_with fail
 go_loopg [] n (fun m wr=>∃ (rc:Rd) (acc:Tr) (vv:Value),Prg T g cap b w.heap.size w vv acc rc wr/\T.length - rc.next<=m+1/\app (er acc) (aJ T B n m rc).2=(aJ T B n n r).2/\(aJ T B n m rc).1=(aJ T B n n r).1)
 case atStart=>
  exact⟨r,.nil,.slice none 0 0,y5.out,Oa,rfl,rfl⟩
 case round=>
  obtain⟨rc,acc,vv,PP,hm,k8,h7⟩:=hrel;have HR:Hid (app (er acc) (aJ T B n gk rc).2=(aJ T B n n r).2):=k8;have h9:Hid ((aJ T B n gk rc).1=(aJ T B n n r).1):=h7;clear k8 h7;have y7:=PP.rd.alloc (.cells #[.int .i64 0] 141);have e2:=(Ex.refl b wr).alloc (.cells #[.int .i64 0] 141);have j2:=bM wr [0] #[.int .i64 0] rfl;have P2:=PP.move e2 y7 Ol rfl;have j8:Hid _:=P2;clear P2 PP e2;go_wp2_with fail
  refine(gB T g cap b rc wr.heap.size 1 [0] _ y7 j2 Ob).mono ?_;rintro e W3 ⟨rfl,nn,rfl⟩;have P3:=j8.out.move ((Ex.refl b _).drewN nn) (y7.drewN nn) Ol rfl;clear y7 j2 j8;generalize (wr.alloc (.cells #[.int .i64 0] 141)).drewN nn=W3 at*;cases hs:aN T rc [0]
  ·have y6:=P3.rd.alloc (.cells #[.int .i64 3,.int .i64 4] 141);have e4:=(Ex.refl b W3).alloc (.cells #[.int .i64 3,.int .i64 4] 141);have j1:=bM W3 [3,4] #[.int .i64 3,.int .i64 4] rfl;have P4:=P3.move e4 y6 Ol rfl;have h8:=P3.len;have j0:=aIV h2 P3.rd.lt hs;have j7:Hid _:=P4;clear P4 P3 e4;obtain⟨m,rfl⟩:=Oj gk;go_wp2_with fail
   refine(fG T g cap b rc W3.heap.size 2 [3,4] _ y6 j1 Ob Ob).mono ?_;rintro e W5 ⟨rfl,h5,e5⟩;have a5:=aP h2 y6.lt (show aQ [3,4] 0=false by decide);have g5:=aHA j0 [3,4];have P5:=j7.out.move e5 h5 a5.ge a5.nest;clear y6 j1 j7 e5 j0 h5;generalize z8:rc.take T [3,4]=r5 at*;generalize hq:cN T rc [3,4]=q at*
   have HS:Hid (aJ T B n (m+1) rc=if q.kind=3 then((aJ T B n m (fQ T r5).1).1,cons (fQ T r5).2 (aJ T B n m (fQ T r5).1).2)
    else if q.kind=4 then((aJ T B n m (cZ T B n r5).1).1,cons (cZ T B n r5).2 (aJ T B n m (cZ T B n r5).1).2)else aJ T B n m r5):=by
    unfold Hid;rw[<-hq,<-z8];show(if _ then _ else _)=_;rw[if_neg (by rw[hs];decide)]
   clear z8 hq hs;rw[Tok.val_eq];have hfl:=aGL q;have k2:=P5.nest;obtain⟨z4,z3⟩:=z1.out r5 k2;have hgl:=a5.ge;have y0:aO acc+1<=r5.next:=Qd (Nat.succ_le_succ h8) g5;have hl4:aO acc<=5000:=by have:=P5.rd.lt;omega
   clear h8;have ag:some w.heap.size≠vv.ownBlock:=fun e=>(P5.own_ne e.symm).2.2 rfl;obtain⟨ao,cp,rfl,j9⟩:=eQ P5.own;have c5:=P5.cell;have f5:=P5.froz;have l5:=P5.lt;have hB5:w.heap.size<=W5.heap.size:=P5.ex.size;have rd5:=P5.rd.drew;have P5d:=P5.move ((Ex.refl b W5).drew) rd5 Ol rfl;have k5:Hid _:=P5d;have y8:Hid _:=P5;have HM:Hid (T.length - rc.next<=m+1+1):=hm;clear P5d P5 a5 j9 hm
   by_cases k3:q.kind=3
   ·have k3':(q.kind==3)=true:=by simpa using k3
    have hf:Hid (aJ T B n (m+1) rc=((aJ T B n m (fQ T r5).1).1,cons (fQ T r5).2 (aJ T B n m (fQ T r5).1).2)):=HS.out.trans (if_pos k3);have y4:Hid (∃ a x y,(fQ T r5).2= .node 0 0 a x y/\a.tag=16):=⟨_,_,_,rfl,rfl⟩;have h1:Hid (Adv T r5 (fQ T r5).1):=nS h2 r5 rd5.lt;clear HS k3;go_wp2_with fail
    go_region_law
     (first
       |(refine step_append_lies _ (by rfl) _ _ _ (by rfl) w.heap.size 151 i0 _ 1 16 Tryz.underlying107 j3 z7 z6 z5 rfl Oa (.slice ao (aO acc) cp) (aO acc) (cT acc) (by rfl) (own6.alloc _)
          ⟨W6.heap.size,0,none⟩ 1 1 [.iface 192 (.pointer (some p6))] (by rfl) (by rfl) (World.news_of_block (cs:=#[.iface 192 (.pointer (some p6))]) (t:=151) (fr:=(0,0)) (Qb W6 _)) (by simp[Value.oneCell'])
          Oa (by unfold maxLen;omega) Oa (by simp;omega) (W6.heap.size+1) Od ?_;intro g7 cp7 W7 own7 grow7 h3 z2;have q1:=(grow7.cell_far ⟨w.heap.size,0,none⟩ Pa.out.lt ag).trans Pa.out.cell;have q2:=(grow7.frozen_far ⟨w.heap.size,0,none⟩ Pa.out.lt ag).trans Pa.out.froz)
       |(refine eC rfl 125 #[.pointer (some ⟨b,0,none⟩)] _ (by go_simp) (aKY T g cap b r5 _ rd5) ?_;rintro e W6 ⟨t6,rfl,k7,it6,h6,e6⟩;refine⟨_,rfl,?_⟩;have h4:Hid (er t6=(fQ T r5).2):=k7;obtain⟨xa,xx,xy,k1,k0⟩:=y4.out;obtain⟨p6,k9,k6⟩:=rO (h4.out.trans k1) Oa;have y3:Hid (bCH t6= .iface 192 (.pointer (some p6))):=(k6.trans (by rw[k0];rfl));have HX:Hid (er t6= .node 0 0 xa xx xy/\xa.tag=16):=⟨h4.out.trans k1,k0⟩;rw[k9];clear k6 k9 k1 k7 k0;have P6:=k5.out.move e6 h6 h1.out.ge h1.out.nest;have c6:=P6.cell;have f6:=P6.froz;have l6:=P6.lt;have own6:=P6.own;have g0:w.heap.size<=W6.heap.size:=P6.ex.size;have Pa:Hid _:=P6.move ((Ex.refl b W6).alloc (.cells #[.iface 192 (.pointer (some p6))] 151)) (h6.alloc _) Ol rfl;clear P6))
    all_goals
     have fin:∃ (rc:Rd) (acc':Tr) (vv:Value),Prg T g cap b w.heap.size w vv acc' rc (W7.setCell ⟨w.heap.size,0,none⟩ (.slice (some ⟨g7,0,none⟩) (aO acc+1) cp7))/\T.length - rc.next<=m+1/\app (er acc') (aJ T B n m rc).2=(aJ T B n n r).2/\(aJ T B n m rc).1=(aJ T B n n r).1:=by
      have z9:=HM.out;have r1:=HR.out;have r2:=h9.out;rw[hf.out]at r1 r2;have y1:=h1.out.ge;refine⟨_,_,_,Prg.push k5.out HX.out.1 (Oi HX.out.2) (Oi HX.out.2) y3.out it6 h6 e6 own7 grow7 h3 y1 (Qd y0 y1) h1.out.nest,Oa,?_,r2⟩;rw[sE,pN,h4.out];exact r1
    all_goals clear HR h9 hf k5 y8 HM HB z0 y9 z1 y5 y4 h1 h4 y3 HX Pa it6 h6 e6 own7 grow7 h3 own6
    all_goals go_wp2
    all_goals go_roundg m
    all_goals first|exact fin|omega
   ·have k3':(q.kind==3)=false:=by simpa using k3
    by_cases k4:q.kind=4
    ·have k4':(q.kind==4)=true:=by simpa using k4
     have hf:Hid (aJ T B n (m+1) rc=((aJ T B n m (cZ T B n r5).1).1,cons (cZ T B n r5).2 (aJ T B n m (cZ T B n r5).1).2)):=HS.out.trans ((if_neg k3).trans (if_pos k4));have y4:Hid (∃ a x y,(cZ T B n r5).2= .node 0 0 a x y/\a.tag=17):=⟨_,_,_,rfl,rfl⟩;have h1:Hid (Adv T r5 (cZ T B n r5).1):=jX h2 z0.out n r5 rd5.lt;clear HS k3 k4;go_wp2_with fail
     go_region_law
      (first
        |(refine step_append_lies _ (by rfl) _ _ _ (by rfl) w.heap.size 151 i0 _ 1 16 Tryz.underlying107 j3 z7 z6 z5 rfl Oa (.slice ao (aO acc) cp) (aO acc) (cT acc) (by rfl) (own6.alloc _)
           ⟨W6.heap.size,0,none⟩ 1 1 [.iface 106 (.pointer (some p6))] (by rfl) (by rfl) (World.news_of_block (cs:=#[.iface 106 (.pointer (some p6))]) (t:=151) (fr:=(0,0)) (Qb W6 _)) (by simp[Value.oneCell'])
           Oa (by unfold maxLen;omega) Oa (by simp;omega) (W6.heap.size+1) Od ?_;intro g7 cp7 W7 own7 grow7 h3 z2;have q1:=(grow7.cell_far ⟨w.heap.size,0,none⟩ Pa.out.lt ag).trans Pa.out.cell;have q2:=(grow7.frozen_far ⟨w.heap.size,0,none⟩ Pa.out.lt ag).trans Pa.out.froz)
        |(refine eC rfl 126 #[.pointer (some ⟨b,0,none⟩)] _ (by go_simp) (aCB T g cap b n B r5 _ HB.out y9.out rd5 z4 z3) ?_;rintro e W6 ⟨t6,rfl,k7,it6,h6,e6⟩;refine⟨_,rfl,?_⟩;have h4:Hid (er t6=(cZ T B n r5).2):=k7;obtain⟨xa,xx,xy,k1,k0⟩:=y4.out;obtain⟨p6,k9,k6⟩:=rO (h4.out.trans k1) Oa;have y3:Hid (bCH t6= .iface 106 (.pointer (some p6))):=(k6.trans (by rw[k0];rfl));have HX:Hid (er t6= .node 0 0 xa xx xy/\xa.tag=17):=⟨h4.out.trans k1,k0⟩;rw[k9];clear k6 k9 k1 k7 k0;have P6:=k5.out.move e6 h6 h1.out.ge h1.out.nest;have c6:=P6.cell;have f6:=P6.froz;have l6:=P6.lt;have own6:=P6.own;have g0:w.heap.size<=W6.heap.size:=P6.ex.size;have Pa:Hid _:=P6.move ((Ex.refl b W6).alloc (.cells #[.iface 106 (.pointer (some p6))] 151)) (h6.alloc _) Ol rfl;clear P6))
     all_goals
      have fin:∃ (rc:Rd) (acc':Tr) (vv:Value),Prg T g cap b w.heap.size w vv acc' rc (W7.setCell ⟨w.heap.size,0,none⟩ (.slice (some ⟨g7,0,none⟩) (aO acc+1) cp7))/\T.length - rc.next<=m+1/\app (er acc') (aJ T B n m rc).2=(aJ T B n n r).2/\(aJ T B n m rc).1=(aJ T B n n r).1:=by
       have z9:=HM.out;have r1:=HR.out;have r2:=h9.out;rw[hf.out]at r1 r2;have y1:=h1.out.ge;refine⟨_,_,_,Prg.push k5.out HX.out.1 (Oi HX.out.2) (Oi HX.out.2) y3.out it6 h6 e6 own7 grow7 h3 y1 (Qd y0 y1) h1.out.nest,Oa,?_,r2⟩;rw[sE,pN,h4.out];exact r1
     all_goals clear HR h9 hf k5 y8 HM HB z0 y9 z1 y5 y4 h1 h4 y3 HX Pa it6 h6 e6 own7 grow7 h3 own6
     all_goals go_wp2
     all_goals go_roundg m
     all_goals first|exact fin|omega
    ·have k4':(q.kind==4)=false:=by simpa using k4
     have hf:Hid (aJ T B n (m+1) rc=aJ T B n m r5):=HS.out.trans ((if_neg k3).trans (if_neg k4));have P5:=y8.out
     have fin:∃ (rc:Rd) (acc':Tr) (vv:Value),Prg T g cap b w.heap.size w vv acc' rc W5/\T.length - rc.next<=m+1/\app (er acc') (aJ T B n m rc).2=(aJ T B n n r).2/\(aJ T B n m rc).1=(aJ T B n n r).1:=by
      have z9:=HM.out;have r1:=HR.out;have r2:=h9.out;rw[hf.out]at r1 r2;exact⟨r5,acc,_,P5,Oa,r1,r2⟩
     clear HS k3 k4 HR h9 hf k5 y8 P5 HM HB z0 y9 z1 y5;go_wp2;go_roundg m
     case rel=>exact fin
     case measure=>omega
  ·have y2:aJ T B n gk rc=(rc,.nil):=by
    cases gk with
    |zero=>rfl
    |succ gk=>show(if _ then _ else _)=_;rw[if_pos hs]
   have r1:=HR.out;have r2:=h9.out;rw[y2]at r1 r2;rw[vJ]at r1;have fin:aP1 T g cap b w (aJ T B n n r) (.returned (.pointer (some ⟨w.heap.size,0,none⟩))) W3:=⟨vv,acc,rfl,r1,by rw[<-r2];exact P3⟩;clear r1 r2 y2 HR h9 P3;go_wp2;go_ret;exact fin
structure aGY(T:List Tok)(g cap:Nat)(w:World):Prop where
 row:∃ cur,w.heap[g]?=some (.cells cur 143 (0,0))/\cur.toList.take (T.length*4)=fJ T
 cap_:T.length<=cap
 few:T.length<=5000
 pos:0 < T.length
 last:cY T
 vals:∀ t∈T,0<=t.value/\t.value<=999999999
theorem Prg.tree{T:List Tok}{g cap b pb:Nat}{w0 w:World}{v:Value}{acc:Tr}{rc:Rd}(h:Prg T g cap b pb w0 v acc rc w):∃ t,bCH t=v/\er t=gE (er acc)/\New w0.heap.size w t/\dV pb t:=by
 cases hac:acc with
 |nil=>exact⟨.nil,(h.nil hac).symm,rfl,New.nil _ _,trivial⟩
 |node b1 o1 a1 x1 q1=>
  have h1:acc≠ .nil:=by rw[hac];intro h;cases h
  rw[<-hac];have own:=h.own;obtain⟨ao,cp,rfl,h2⟩:=eQ own;rcases h2 with h0|⟨gg,rfl⟩
  ·have:=uO h1;omega
  refine⟨.node gg cp {tag:=20} acc .nil,rfl,?_,New.listed h1 h.sized h.new (by rw[h.typ h1];exact own),⟨h.nip,trivial,fun _=>(h.own_ne rfl).2.2⟩⟩;show er (.node gg cp {tag:=20} acc .nil)=gE (er acc);rw[hac];rfl
def aU9(T:List Tok)(w:World):Ending->World->Prop:=fun e w'=>Below w.heap.size w w'/\
 (((bP T).1.code≠0/\e= .returned (.tuple #[.pointer none,.agg #[.int .i64 (bP T).1.code,.int .i64 (bP T).1.pos]]))\/
  ((bP T).1.code=0/\∃ pb t,e= .returned (.tuple #[.pointer (some ⟨pb,0,none⟩),.agg #[.int .i64 0,.int .i64 0]])/\w.heap.size<=pb/\w'.heap[pb]?=some (.cells (qW (bCH t)) 111 (0,0))/\
     er t=(bP T).2/\New w.heap.size w' t/\dV pb t))
theorem aL2(T:List Tok)(g cap:Nat)(w:World)(h:aGY T g cap w):
 Calls Tryz.prog 42 #[.slice (some ⟨g,0,none⟩) T.length cap] w (aU9 T w):=by
 obtain⟨cur,hg,h6⟩:=h.row;have k0:g < w.heap.size:=(Oo hg);have s1:(w.alloc (.cells #[.int .i64 0,.int .i64 0] 37)).heap.size=w.heap.size+1:=Od
 have RS:RdW T g cap (w.heap.size+1) rd0 ((w.alloc (.cells #[.int .i64 0,.int .i64 0] 37)).alloc (.cells #[.slice (some ⟨g,0,none⟩) T.length cap,.int .i64 0,.int .i64 0,.int .i64 0,.int .i64 0] 145)):=by
  refine⟨?_,⟨cur,?_,h6⟩,h.cap_,h.few,h.pos,h.last,h.vals⟩
  ·rw[<-s1];exact Qb _ _
  ·exact(On (by rw[s1];omega)).trans ((On k0).trans hg)
 have e1:Below w.heap.size w ((w.alloc (.cells #[.int .i64 0,.int .i64 0] 37)).alloc (.cells #[.slice (some ⟨g,0,none⟩) T.length cap,.int .i64 0,.int .i64 0,.int .i64 0,.int .i64 0] 145)):=
  ((Below.refl _ _).alloc Ol _).alloc Od _
 have n1:((w.alloc (.cells #[.int .i64 0,.int .i64 0] 37)).alloc (.cells #[.slice (some ⟨g,0,none⟩) T.length cap,.int .i64 0,.int .i64 0,.int .i64 0,.int .i64 0] 145)).heap[w.heap.size]?=some (.cells #[.int .i64 0,.int .i64 0] 37 (0,0)):=
  (On (by rw[s1];omega)).trans (Qb w _)
 have h5:w.heap.size≠w.heap.size+1:=Oa
 have hfew:=h.few;have h1:=h.last;clear hg h6 k0;go_enter Tryz.func42,Tryz.ntmps42
 go_wp2_with fail
 generalize (w.alloc (.cells #[.int .i64 0,.int .i64 0] 37)).alloc (.cells #[.slice (some ⟨g,0,none⟩) T.length cap,.int .i64 0,.int .i64 0,.int .i64 0,.int .i64 0] 145)=W1 at*;refine(aDU T g cap (w.heap.size+1) (bY T) (iH T (bY T) 6) rd0 W1 (aJD T h1 g cap _ (bY T) 6 Ob) (gF h1 _ _) ((aDI _ 6).2.2.1 rfl) RS (by unfold bY;omega) (by unfold bY;omega) rfl).mono ?_;rintro e W2 ⟨v,acc,rfl,h4,P2⟩;have HE:Hid (er acc=(aJ T (iH T (bY T) 6) (bY T) (bY T) rd0).2):=h4;have hq:(bP T).1=(aJ T (iH T (bY T) 6) (bY T) (bY T) rd0).1:=rfl;rw[<-hq]at P2;have n2:=(P2.ex.block w.heap.size (Oo n1) h5).trans n1;have b2:Below w.heap.size w W2:=e1.trans ⟨P2.ex.os,P2.ex.tape,P2.ex.output,P2.ex.size,fun k hk=>P2.ex.block k (Oi e1.size) Oa⟩;have h9:=e1.size;have h3:Hid (w.heap.size+1 < W1.heap.size):=RS.size;have h2:=P2.rd;have g3:=h2.c3;have g4:=h2.c4;have q0:W2.cell? ⟨w.heap.size,0,none⟩=some (.int .i64 0):=Og n2 rfl
 have q1:W2.cell? ⟨w.heap.size,1,none⟩=some (.int .i64 0):=Og n2 rfl
 have z0:∀ o,W2.frozen? ⟨w.heap.size,o,none⟩=false:=fun o=>by simp[World.frozen?,n2]
 have z1:∀ o,W2.frozen? ⟨w.heap.size+1,o,none⟩=false:=h2.froz;have HP:Hid _:=P2;have HN:Hid _:=h5;clear P2 h2 hq h4 h5 RS e1
 by_cases h0:(bP T).1.code=0
 ·have HC:Hid ((bP T).1.code=0):=h0;rw[h0]at g3;go_wp2;obtain⟨x0,x1⟩:=dQ (w:=W2) (u0:= .int .i64 0) (u1:= .int .i64 0) q0 q1;refine bodyPost_ret (v:= .tuple #[.pointer (some ⟨W1.heap.size,0,none⟩),.agg #[.int .i64 0,.int .i64 0]]) (by simp[results,Tryz.results42,go_sem,x0,x1]) rfl ?_;obtain⟨t,hv,ht,it,k3⟩:=HP.out.tree;have P2:=HP.out;have l2:=(Oo P2.blk);have h8:w.heap.size≠W1.heap.size:=by have:=h3.out;omega
  refine⟨(b2.setCell Ol _).setCell Ol _,.inr ⟨HC.out,W1.heap.size,t,rfl,h9,?_,?_,?_,k3⟩⟩
  ·rw[hv];exact(Om h8.symm).trans ((Om h8.symm).trans P2.blk)
  ·rw[ht,HE.out];rfl
  ·have h7:dV w.heap.size t:=it.fresh.notIn (Oi h3.out);exact((it.mono h9).set h7 _ _).set h7 _ _
 ·have hcode':((bP T).1.code !=0)=true:=by simpa using h0
  have HC:Hid ((bP T).1.code≠0):=h0;clear h0;generalize k2:(bP T).1.code=c3 at*;generalize k1:(bP T).1.pos=c4 at*;have H3:Hid ((bP T).1.code=c3):=k2;have H4:Hid ((bP T).1.pos=c4):=k1;clear k2 k1;go_wp2_with fail
  go_region
  all_goals go_wp2
  all_goals obtain⟨x0,x1⟩:=dQ (w:=W2) (u0:= .int .i64 c3) (u1:= .int .i64 c4) q0 q1
  all_goals (refine bodyPost_ret (v:= .tuple #[.pointer none,.agg #[.int .i64 c3,.int .i64 c4]]) (by simp[results,Tryz.results42,go_sem,x0,x1]) rfl ⟨?_,Or.inl ⟨?_,?_⟩⟩)
  all_goals first|(rw[H3.out];exact HC.out)|(rw[H3.out,H4.out])|exact(Qm (p:=⟨w.heap.size,1,none⟩) (Qm (p:=⟨w.heap.size,0,none⟩) b2 Ol _) Ol _).drew|exact Qm (p:=⟨w.heap.size,1,none⟩) (Qm (p:=⟨w.heap.size,0,none⟩) b2.drew Ol _) Ol _
def sig(s n:Nat):Option (Nat × Nat):=
 if s=0 then(if n<=1 then some (99,99)else if n=2 then some (0,99)else if n=3 then some (3,99)else if n<=5 then some (0,99)else if n=6 then some (0,0)else none)
 else if s=1 then(if n=7 then some (0,0)else if n=8 then some (1,1)else none)
 else if s=2 then(if n=9 then some (0,99)else if n=10 then some (0,0)else if n=11 then some (1,9)else if n=12 then some (1,4)else if n=13\/n=14 then some (0,99)else none)
 else if s=9 then(if n=18 then some (4,4)else none)
 else if s=3\/s=4\/s=5\/s=6\/s=8 then(if n=20 then some (10+s,99)else none)
 else if s=13 then(if n=15 then some (0,13)else none)
 else if s=14 then(if n=15 then some (2,14)else none)
 else if s=15 then(if n=15 then some (20,15)else none)
 else if s=16 then(if n=15 then some (22,16)else none)
 else if s=18 then(if n=15 then some (7,18)else none)
 else if s=20 then(if n=7 then some (21,21)else none)
 else if s=21 then(if n<=1 then some (99,99)else none)
 else if s=22 then(if n=19 then some (99,99)else none)
 else if s=7 then(if n=16 then some (99,99)else if n=17 then some (6,23)else none)
 else if s=23 then(if n=18 then some (5,4)else none)
 else none
def bK(s:Nat):Prop:=s=99\/s=3\/s=4\/s=5\/s=6\/s=8\/s=13\/s=14\/s=15\/s=16\/s=18
structure OkA(a:Nd):Prop where
 name:a.name.size<=4000
 val:a.tag=0\/a.tag=16->-999999999<=a.val/\a.val<=999999999
 val0:a.tag=16->0<=a.val
 op6:a.tag=6->27<=a.op/\a.op<=31
 op7:a.tag=7->21<=a.op/\a.op<=26
 op8:a.tag=8->a.op=32\/a.op=33
def Ws:Nat->Tr->Prop
 |s,.nil=>bK s
 |s,.node _ _ a l r=>OkA a/\(a.tag=20->aO l<=10000)/\match sig s a.tag with
  |none=>False
  |some (x,y)=>Ws x l/\Ws y r
theorem Ws.of20{s x y b o:Nat}{a:Nd}{l r:Tr}(h:sig s a.tag=some (x,y))(ha:OkA a)(h0:a.tag=20->aO l<=10000)(hl:Ws x l)(hr:Ws y r):Ws s (.node b o a l r):=by
 unfold Ws;rw[h];exact⟨ha,h0,hl,hr⟩
theorem Ws.of{s x y b o:Nat}{a:Nd}{l r:Tr}(h:sig s a.tag=some (x,y))(ha:OkA a)(hl:Ws x l)(hr:Ws y r)(h0:a.tag≠20:=by simp):Ws s (.node b o a l r):=
 Ws.of20 h ha (fun e=>absurd e h0) hl hr
theorem Ws.len{s b o:Nat}{a:Nd}{l r:Tr}(hw:Ws s (.node b o a l r))(h:a.tag=20):aO l<=10000:=by
 unfold Ws at hw;exact hw.2.1 h
theorem Ws.nil99:Ws 99 .nil:= .inl rfl
theorem Ws.er:∀ (t:Tr) (s:Nat),Ws s (YtikffmloeifkpaaGreatDoor.er t)↔Ws s t:=by
 intro t
 induction t with
 |nil=>intro s;exact Iff.rfl
 |node b o a l r ihl ihr=>
  intro s;show(OkA a/\_/\_)↔(OkA a/\_/\_);rw[aHY];refine and_congr Iff.rfl (and_congr Iff.rfl ?_);cases sig s a.tag with
  |none=>exact Iff.rfl
  |some p=>exact and_congr (ihl _) (ihr _)
def eO(n:Nat):Bool:=n==1||n==2||n==3||n==9||n==10||n==16||n==17||n==19
def ps:Tr->List Int
 | .nil=>[]
 | .node _ _ a l r=>if a.tag=6 then ps l++a.pos::ps r else if eO a.tag then a.npos::(ps l++ps r)else ps l++ps r
theorem aRP(t:Tr):ps (er t)=ps t:=by
 induction t with
 |nil=>rfl
 |node b o a l r ihl ihr=>simp only[er,ps,ihl,ihr]
variable {T:List Tok}
def Sg(T:List Tok)(i j:Nat)(l:List Int):Prop:=i<=j/\∃ ix:List Nat,l=ix.map (fun k=>(dD T k).pos)/\ix.Pairwise (·< ·)/\∀ x∈ix,i<=x/\x < j
theorem Sg.nil{i j:Nat}(h:i<=j):Sg T i j []:=⟨h,[],rfl,.nil,fun _ h=>by cases h⟩
theorem Sg.one(i:Nat):Sg T i (i+1) [(dD T i).pos]:=⟨Oa,[i],rfl,Od,fun x h=>by simp at h;omega⟩
theorem Sg.app{i j k:Nat}{l m:List Int}(h1:Sg T i j l)(h2:Sg T j k m):Sg T i k (l++m):=by
 obtain⟨a1,x1,rfl,p1,q1⟩:=h1;obtain⟨a2,x2,rfl,p2,q2⟩:=h2;refine⟨Oa,x1++x2,Od,List.pairwise_append.2 ⟨p1,p2,fun a ha b hb=>?_⟩,fun x hx=>?_⟩
 ·have:=q1 a ha;have:=q2 b hb;omega
 ·rcases List.mem_append.1 hx with h|h
  ·have:=q1 x h;omega
  ·have:=q2 x h;omega
theorem Sg.mono{i j i' j':Nat}{l:List Int}(h:Sg T i j l)(h1:i'<=i)(h2:j<=j'):Sg T i' j' l:=by
 obtain⟨a1,x1,rfl,p1,q1⟩:=h;exact⟨Oa,x1,rfl,p1,fun x hx=>Oi (q1 x hx)⟩
structure eF(T:List Tok):Prop where
 text:∀ t∈T,t.text.size<=4000
 vals:∀ t∈T,0<=t.value/\t.value<=999999999
 few:T.length<=5000
theorem eF.at(h:eF T)(i:Nat):(dD T i).text.size<=4000/\0<=(dD T i).value/\(dD T i).value<=999999999:=by
 rcases Qk i T.length with hi|hi
 ·have:=Qi (lJ hi);exact⟨h.text _ this,h.vals _ this⟩
 ·have:dD T i=aD6:=by simp[dD,List.getD,List.getElem?_eq_none hi]
  rw[this];exact⟨Ob,Ob,Ob⟩
theorem OkA.mk_{a:Nd}(hn:a.name=ByteArray.mk #[]\/∃ i,a.name=(dD T i).text)(hT:eF T)(hv:-999999999<=a.val/\a.val<=999999999)(h0:a.tag=16->0<=a.val)(h6:a.tag=6->27<=a.op/\a.op<=31)(h7:a.tag=7->21<=a.op/\a.op<=26)(h8:a.tag=8->a.op=32\/a.op=33):OkA a:=by
 refine⟨?_,fun _=>hv,h0,h6,h7,h8⟩;rcases hn with h|⟨i,h⟩
 ·rw[h];decide
 ·rw[h];exact(hT.at i).1
theorem mS{n:Nat}{r:Rd}{c p:Int}(hc:c≠0):(r.fail n c p).code≠0:=by
 unfold Rd.fail
 by_cases h:r.code=0
 ·rw[if_pos h];exact hc
 ·rw[if_neg h];exact h
theorem bR{r:Rd}{ks:List Int}(h:(r.take T ks).code=0):r.code=0/\aN T r ks=true/\(r.take T ks).next=r.next+1/\cN T r ks=dD T r.next:=by
 unfold Rd.take at h ⊢
 by_cases hs:aN T r ks=true
 ·rw[if_pos hs]at h ⊢;exact⟨h,hs,rfl,by unfold cN;rw[if_pos hs]⟩
 ·rw[if_neg hs]at h;exact absurd h (mS Ob)
theorem aH6{r:Rd}{ks:List Int}(h:aN T r ks=true):(cN T r ks).kind∈ks:=by
 unfold cN;rw[if_pos h];unfold aN aQ at h;exact List.contains_iff_mem.1 h
theorem pE{r:Rd}{ks:List Int}(h:(r.skips T ks).code=0):r.code=0:=by
 unfold Rd.skips at h
 by_cases hs:aN T r ks=true
 ·rw[if_pos hs]at h;exact h
 ·rw[if_neg hs]at h;exact h
theorem uH(r:Rd)(ks:List Int):r.next<=(r.skips T ks).next:=by
 unfold Rd.skips
 split
 ·show r.next<=r.next+1;omega
 ·exact Qc _
theorem wN{n:Nat}{r:Rd}{p:Int}(h:(r.deeper n p).code=0):r.code=0/\(r.deeper n p).next=r.next:=by
 unfold Rd.deeper at h ⊢
 by_cases hd:10 < r.nest+1
 ·rw[if_pos hd]at h;exact absurd h (mS Ob)
 ·rw[if_neg hd]at h ⊢;exact⟨h,rfl⟩
theorem mR{r:Rd}{ks:List Int}(h:(r.opened T ks).code=0):r.code=0/\(r.opened T ks).next=r.next+1:=by
 obtain⟨h1,h2⟩:=wN h;obtain⟨h3,_,h4,_⟩:=bR h1;exact⟨h3,h2.trans h4⟩
theorem pV{r:Rd}{k:Int}(h:(r.shut T k).code=0):r.code=0/\(r.shut T k).next=r.next+1:=by
 obtain⟨h3,_,h4,_⟩:=bR (r:=r) h;exact⟨h3,h4⟩
def Ok(T:List Tok)(s:Nat)(S:Pr):Prop:=∀ r,r.next < T.length->(S r).1.code=0->r.code=0/\Ws s (S r).2/\Sg T r.next (S r).1.next (ps (S r).2)
theorem aJM(hT:eF T)(he:cY T){S:Pr}(hG:aZ T S)(hS:Ok T 0 S){ops:List Int}(k0:∀ k∈ops,27<=k/\k<=31)(h0:aQ ops 0=false):∀ n r v,r.next < T.length->(bCL T S ops n r v).1.code=0->
 r.code=0/\∀ i,Ws 0 v->Sg T i r.next (ps v)->Ws 0 (bCL T S ops n r v).2/\Sg T i (bCL T S ops n r v).1.next (ps (bCL T S ops n r v).2):=by
 intro n
 induction n with
 |zero=>intro r v _ hc;exact⟨hc,fun i hv hp=>⟨hv,hp⟩⟩
 |succ n ih=>
  intro r v hr hc;unfold bCL at hc ⊢
  by_cases hs:aN T r ops=true
  ·rw[if_pos hs]at hc ⊢;have a1:=aP he hr h0;have a2:=hG _ a1.lt;obtain⟨h1,h9⟩:=ih _ _ a2.lt hc;obtain⟨h2,h3,h4⟩:=hS _ a1.lt h1;obtain⟨h5,h6,h7,h8⟩:=bR h2;refine⟨h5,fun i hv hp=>h9 i (Ws.of (x:=0) (y:=0) rfl (OkA.mk_ Ox hT Od Od (fun _=>k0 _ (aH6 h6)) Od Od) hv h3) ?_⟩;show Sg T i _ (if(6:Nat)=6 then _ else _);rw[if_pos rfl];rw[h7]at h4;have e:=(hp.app (Sg.one r.next)).app h4;rw[h8];simpa[List.append_assoc]using e
  ·rw[if_neg hs]at hc ⊢;exact⟨hc,fun i hv hp=>⟨hv,hp⟩⟩
theorem aDX(hT:eF T)(he:cY T){S:Pr}(hG:aZ T S)(hS:Ok T 0 S){ops:List Int}(h6:∀ k∈ops,27<=k/\k<=31)(h0:aQ ops 0=false)(n:Nat):Ok T 0 (lA T S ops n):=by
 intro r hr hc;obtain⟨h1,h5⟩:=aJM hT he hG hS h6 h0 n _ _ (hG r hr).lt hc;obtain⟨h2,h3,h4⟩:=hS r hr h1;exact⟨h2,h5 _ h3 h4⟩
theorem vX(hT:eF T)(he:cY T){S:Pr}(hG:aZ T S)(hS:Ok T 1 S){op:Int}(h6:op=32\/op=33)(h0:aQ [op] 0=false):∀ n r v,r.next < T.length->(gD T S op n r v).1.code=0->
 r.code=0/\∀ i,Ws 1 v->Sg T i r.next (ps v)->Ws 1 (gD T S op n r v).2/\Sg T i (gD T S op n r v).1.next (ps (gD T S op n r v).2):=by
 intro n
 induction n with
 |zero=>intro r v _ hc;exact⟨hc,fun i hv hp=>⟨hv,hp⟩⟩
 |succ n ih=>
  intro r v hr hc;unfold gD at hc ⊢
  by_cases hs:aN T r [op]=true
  ·rw[if_pos hs]at hc ⊢;have a1:=dU he hr h0;have a2:=hG _ a1.lt;obtain⟨h1,h5⟩:=ih _ _ a2.lt hc;obtain⟨h2,h3,h4⟩:=hS _ a1.lt h1;refine⟨pE h2,fun i hv hp=>h5 i (Ws.of (x:=1) (y:=1) rfl (OkA.mk_ Ox hT Od Od Od Od (fun _=>h6)) hv h3) ?_⟩;exact hp.app (h4.mono (uH _ _) Ol)
  ·rw[if_neg hs]at hc ⊢;exact⟨hc,fun i hv hp=>⟨hv,hp⟩⟩
theorem aDW(hT:eF T)(he:cY T){S:Pr}(hG:aZ T S)(hS:Ok T 1 S){op:Int}(h6:op=32\/op=33)(h0:aQ [op] 0=false)(n:Nat):Ok T 1 (kK T S op n):=by
 intro r hr hc;obtain⟨h1,h5⟩:=vX hT he hG hS h6 h0 n _ _ (hG r hr).lt hc;obtain⟨h2,h3,h4⟩:=hS r hr h1;exact⟨h2,h5 _ h3 h4⟩
theorem yQ(hT:eF T)(he:cY T){S:Pr}(s s2:Nat)(h0:s=0/\s2=1\/s=21/\s2=20)(hG:aZ T S)(hS:Ok T s S):Ok T s2 (iJ T S):=by
 intro r hr hc;have a1:=hG r hr;have a2:=aP he a1.lt (show aQ iR 0=false by decide);obtain⟨h1,h2,h3⟩:=hS _ a2.lt hc;obtain⟨h5,h6,h7,h8⟩:=bR h1;obtain⟨k1,k2,k3⟩:=hS r hr h5;have h4:∀ k∈iR,21<=k/\k<=26:=Ob
 refine⟨k1,Ws.of (x:=s) (y:=s) (by rcases h0 with⟨rfl,rfl⟩|⟨rfl,rfl⟩<;>rfl) (OkA.mk_ Ox hT Od Od Od (fun _=>h4 _ (aH6 h6)) Od) k2 h2,?_⟩;rw[h7]at h3;exact k3.app (h3.mono Oa Ol)
theorem aN7(he:cY T){S:Pr}{s s2:Nat}(h4:sig s2 15=some (s,s2))(h0:bK s2)(hG:aZ T S)(hS:Ok T s S):∀ n r,r.next < T.length->(bEG T S n r).1.code=0->r.code=0/\Ws s2 (bEG T S n r).2/\Sg T r.next (bEG T S n r).1.next (ps (bEG T S n r).2):=by
 intro n
 induction n with
 |zero=>intro r _ hc;exact⟨hc,h0,Sg.nil Ol⟩
 |succ n ih=>
  intro r hr hc;unfold bEG at hc ⊢
  by_cases hs:aN T r [18]=true
  ·rw[if_pos hs]at hc ⊢;have a1:=dU he hr (show aQ [18] 0=false by decide);have a2:=hG _ a1.lt;obtain⟨h1,h2,h3⟩:=ih _ a2.lt hc;obtain⟨k1,k2,k3⟩:=hS _ a1.lt h1;exact⟨pE k1,Ws.of h4 ⟨Ob,Od,Od,Od,Od,Od⟩ k2 h2,(k3.app h3).mono (uH _ _) Ol⟩
  ·rw[if_neg hs]at hc ⊢;exact⟨hc,h0,Sg.nil Ol⟩
theorem rV{s:Nat}(hs:s=3\/s=4\/s=5\/s=6\/s=8){l:Tr}(h:Ws (10+s) l)(h0:aO l<=10000):Ws s (gE l)/\ps (gE l)=ps l:=by
 cases l with
 |nil=>exact⟨by unfold gE Ws bK;omega,rfl⟩
 |node b o a x y=>
  refine⟨Ws.of20 (x:=10+s) (y:=99) ?_ ⟨Ob,Od,Od,Od,Od,Od⟩ (fun _=>h0) h Ws.nil99,?_⟩
  ·rcases hs with rfl|rfl|rfl|rfl|rfl<;>rfl
  ·show ps (.node b o a x y)++[]=_;simp
theorem aK4(he:cY T){S:Pr}(hG:aZ T S):∀ n r,r.next < T.length->aO (bEG T S n r).2+r.next<=(bEG T S n r).1.next:=by
 intro n
 induction n with
 |zero=>intro r _;show 0+r.next<=r.next;omega
 |succ n ih=>
  intro r hr;unfold bEG
  by_cases hs:aN T r [18]=true
  ·rw[if_pos hs];have a1:=dU he hr (show aQ [18] 0=false by decide);have a2:=hG _ a1.lt;have h1:=ih _ a2.lt;have h2:=lW hs;have h3:=a2.ge;show aO (bEG T S n (S (r.skips T [18])).1).2+1+r.next<=_;dsimp only;omega
  ·rw[if_neg hs];show 0+r.next<=r.next;omega
theorem aBZ(hT:eF T)(he:cY T){S:Pr}{s s2:Nat}(h0:sig (10+s2) 15=some (s,10+s2))(hs:s2=3\/s2=5\/s2=6)(hG:aZ T S)(hS:Ok T s S)(n:Nat):Ok T s2 (fX T S n):=by
 intro r hr hc;obtain⟨h1,h2,h3⟩:=aN7 he h0 (by unfold bK;omega) hG hS n _ (hG r hr).lt hc;obtain⟨k1,k2,k3⟩:=hS r hr h1;have hw:Ws (10+s2) (cons (S r).2 (bEG T S n (S r).1).2):=Ws.of h0 ⟨Ob,Od,Od,Od,Od,Od⟩ k2 h2;have hln:=aK4 he hG n _ (hG r hr).lt;have hlt:=(zK he hG n _ (hG r hr).lt).lt;have hfw:=hT.few;obtain⟨m1,m2⟩:=rV Oa hw (by show aO (bEG T S n (S r).1).2+1<=10000;omega);refine⟨k1,m1,?_⟩;have e:(fX T S n r).2=gE (cons (S r).2 (bEG T S n (S r).1).2):=rfl;rw[e,m2];exact k3.app h3
theorem qY(he:cY T){S:Pr}(hS:Ok T 0 S):∀ r,r.next < T.length->(gR T S r).1.code=0->r.code=0/\Ws 0 (gR T S r).2/\Sg T r.next (gR T S r).1.next (ps (gR T S r).2):=by
 intro r hr hc;obtain⟨o1,o2,o3⟩:=dF he hr (show aQ [16] 0=false by decide);obtain⟨h1,h2⟩:=pV hc;obtain⟨k1,k2,k3⟩:=hS _ o2 h1;obtain⟨m1,m2⟩:=mR k1;exact⟨m1,k2,k3.mono o1 (by show _<=(Rd.shut T _ 17).next;rw[h2];omega)⟩
theorem aHT(hT:eF T)(he:cY T){S:Pr}(hG:aZ T S)(hS:Ok T 0 S)(n:Nat):∀ r,r.next < T.length->(lB T S n r).1.code=0->r.code=0/\Ws 3 (lB T S n r).2/\Sg T r.next (lB T S n r).1.next (ps (lB T S n r).2):=by
 intro r hr hc;obtain⟨o1,o2,o3⟩:=dF he hr (show aQ [12] 0=false by decide);unfold lB at hc ⊢
 by_cases hs:aN T (r.opened T [12]) [13]=true
 ·rw[if_pos hs]at hc ⊢;obtain⟨h1,h2⟩:=pV hc;obtain⟨m1,m2⟩:=mR h1;exact⟨m1,by unfold Ws bK;omega,Sg.nil (by show _<=(Rd.shut T _ 13).next;rw[h2];omega)⟩
 ·rw[if_neg hs]at hc ⊢;obtain⟨h1,h2⟩:=pV hc;obtain⟨k1,k2,k3⟩:=aBZ hT he (s:=0) (s2:=3) rfl Oa hG hS n _ o2 h1;obtain⟨m1,m2⟩:=mR k1;exact⟨m1,k2,k3.mono o1 (by show _<=(Rd.shut T _ 13).next;rw[h2];omega)⟩
theorem aN6(hT:eF T)(he:cY T){S:Pr}(hG:aZ T S)(hS:Ok T 0 S)(n i:Nat):∀ r,r.next < T.length->r.next=i+1->(gP T S n (dD T i) r).1.code=0->r.code=0/\Ws 0 (gP T S n (dD T i) r).2/\Sg T i (gP T S n (dD T i) r).1.next (ps (gP T S n (dD T i) r).2):=by
 intro r hr hi hc;unfold gP at hc ⊢
 by_cases h1:aN T r [16]=true
 ·rw[if_pos h1]at hc ⊢;obtain⟨k1,k2,k3⟩:=qY he hS r hr hc;refine⟨k1,Ws.of (x:=0) (y:=99) rfl (OkA.mk_ (.inr ⟨i,rfl⟩) hT Od Od Od Od Od) k2 Ws.nil99,?_⟩;rw[hi]at k3;have:=(Sg.one i).app k3;simpa[ps,mk,eO]using this
 ·rw[if_neg h1]at hc ⊢
  by_cases h2:aN T r [12]=true
  ·rw[if_pos h2]at hc ⊢;obtain⟨k1,k2,k3⟩:=aHT hT he hG hS n r hr hc;refine⟨k1,Ws.of (x:=3) (y:=99) rfl (OkA.mk_ (.inr ⟨i,rfl⟩) hT Od Od Od Od Od) k2 Ws.nil99,?_⟩;rw[hi]at k3;have:=(Sg.one i).app k3;simpa[ps,mk,eO]using this
  ·rw[if_neg h2]at hc ⊢;refine⟨hc,Ws.of (x:=99) (y:=99) rfl (OkA.mk_ (.inr ⟨i,rfl⟩) hT Od Od Od Od Od) Ws.nil99 Ws.nil99,?_⟩;have:=Sg.one (T:=T) i;rw[<-hi]at this;simpa[ps,mk,eO,mO]using this
theorem aJL(hT:eF T)(he:cY T){S F:Pr}(hG:aZ T S)(hS:Ok T 0 S)(hF:Ok T 0 F)(n:Nat):Ok T 0 (gM T S F n):=by
 intro r hr hc;have a1:=aP he hr (show aQ cA 0=false by decide);obtain⟨d1,d2,d3⟩:=mD a1.lt (cN T r cA).pos;unfold gM at hc ⊢;dsimp only at hc ⊢
 by_cases k2:(cN T r cA).kind=2
 ·rw[if_pos k2]at hc ⊢;obtain⟨h5,h6,h7,h8⟩:=bR hc;have hv:=hT.at r.next;refine⟨h5,Ws.of (x:=99) (y:=99) rfl (OkA.mk_ Ox hT (by rw[h8];constructor<;>simp<;>omega) Od Od Od Od) Ws.nil99 Ws.nil99,Sg.nil (by simp only;omega)⟩
 rw[if_neg k2]at hc ⊢
 by_cases k12:(cN T r cA).kind=12
 ·rw[if_pos k12]at hc ⊢;obtain⟨h1,h2⟩:=pV hc;obtain⟨m1,m2,m3⟩:=hS _ d2 h1;obtain⟨m4,m5⟩:=wN m1;obtain⟨h5,h6,h7,h8⟩:=bR m4;refine⟨h5,Ws.of (x:=0) (y:=99) rfl (OkA.mk_ Ox hT Od Od Od Od Od) m2 Ws.nil99,?_⟩;have:=m3.mono (i':=r.next) (j':=(Rd.shut T (S (Rd.deeper T.length (r.take T cA) (cN T r cA).pos)).1 13).next) Oa (by rw[h2];omega);simpa[ps,mk,eO]using this
 rw[if_neg k12]at hc ⊢
 by_cases k28:(cN T r cA).kind=28
 ·rw[if_pos k28]at hc ⊢;obtain⟨m1,m2,m3⟩:=hF _ d2 hc;obtain⟨m4,m5⟩:=wN m1;obtain⟨h5,h6,h7,h8⟩:=bR m4;refine⟨h5,Ws.of (x:=0) (y:=99) rfl (OkA.mk_ Ox hT Od Od Od Od Od) m2 Ws.nil99,?_⟩;have:=m3.mono (i':=r.next) Oa Ol;simpa[ps,mk,eO]using this
 rw[if_neg k28]at hc ⊢;have h0:(r.take T cA).code=0\/(r.take T cA).code≠0:=Decidable.em _
 have key:(r.take T cA).code=0:=by
  rcases h0 with h|h
  ·exact h
  ·exfalso;unfold gP at hc
   revert hc
   split
   ·intro hc;exact h (qY he hS _ a1.lt hc).1
   ·split
    ·intro hc;exact h (aHT hT he hG hS n _ a1.lt hc).1
    ·intro hc;exact h hc
 obtain⟨h5,h6,h7,h8⟩:=bR key;rw[h8]at hc ⊢;obtain⟨q1,q2,q3⟩:=aN6 hT he hG hS n r.next _ a1.lt h7 hc;exact⟨h5,q2,q3⟩
theorem aQD(hT:eF T)(he:cY T):Ok T 21 (lG T):=by
 intro r hr hc;have a1:=aP he hr (show aQ [28,2,1] 0=false by decide);unfold lG at hc ⊢;dsimp only at hc ⊢
 by_cases k28:(cN T r [28,2,1]).kind=28
 ·rw[if_pos k28]at hc ⊢;obtain⟨m5,m6,m7,m8⟩:=bR hc;obtain⟨h5,h6,h7,h8⟩:=bR m5;have hv:=hT.at (r.take T [28,2,1]).next;exact⟨h5,Ws.of (x:=99) (y:=99) rfl (OkA.mk_ Ox hT (by rw[m8];constructor<;>simp<;>omega) Od Od Od Od) Ws.nil99 Ws.nil99,Sg.nil (by simp only;omega)⟩
 rw[if_neg k28]at hc ⊢
 by_cases k2:(cN T r [28,2,1]).kind=2
 ·rw[if_pos k2]at hc ⊢;obtain⟨h5,h6,h7,h8⟩:=bR hc;have hv:=hT.at r.next;exact⟨h5,Ws.of (x:=99) (y:=99) rfl (OkA.mk_ Ox hT (by rw[h8];constructor<;>simp<;>omega) Od Od Od Od) Ws.nil99 Ws.nil99,Sg.nil (by simp only;omega)⟩
 rw[if_neg k2]at hc ⊢;obtain⟨h5,h6,h7,h8⟩:=bR hc;refine⟨h5,Ws.of (x:=99) (y:=99) rfl (OkA.mk_ (.inr ⟨r.next,by rw[h8]⟩) hT Od Od Od Od Od) Ws.nil99 Ws.nil99,?_⟩;have:=Sg.one (T:=T) r.next;rw[<-h7]at this;simpa[ps,mk,eO,mO,h8]using this
theorem aSM(hT:eF T)(he:cY T):Ok T 20 (uK T):=yQ hT he 21 20 (.inr ⟨rfl,rfl⟩) (wH he) (aQD hT he)
theorem iI{S:Pr}{s:Nat}(hS:Ok T s S):Ok T s (fM T S):=by
 intro r hr hc;obtain⟨h5,h6,h7,h8⟩:=bR hc;obtain⟨m1,m2,m3⟩:=hS r hr h5;exact⟨m1,m2,m3.mono Ol (by show _<=(Rd.take T _ _).next;rw[h7];omega)⟩
theorem aN4(hT:eF T)(he:cY T){S:Pr}(hS:Ok T 0 S)(q:Bool)(i:Nat):∀ r,r.next < T.length->r.next=i+1->(sQ T S (dD T i) q r).1.code=0->r.code=0/\Ws 2 (sQ T S (dD T i) q r).2/\Sg T i (sQ T S (dD T i) q r).1.next (ps (sQ T S (dD T i) q r).2):=by
 intro r hr hi hc;have a1:=aP he hr (show aQ [20] 0=false by decide);obtain⟨m1,m2,m3⟩:=iI hS _ a1.lt hc;obtain⟨h5,h6,h7,h8⟩:=bR m1;refine⟨h5,Ws.of (x:=0) (y:=99) rfl (OkA.mk_ (.inr ⟨i,rfl⟩) hT Od Od Od Od Od) m2 Ws.nil99,?_⟩;have:=(Sg.one i).app (m3.mono (i':=i+1) Oa Ol);simpa[ps,mk,eO,sQ]using this
theorem aN3(hT:eF T)(he:cY T){S:Pr}(hG:aZ T S)(hS:Ok T 0 S)(i:Nat):∀ r,r.next < T.length->r.next=i+1->(lK T S (dD T i) r).1.code=0->r.code=0/\Ws 2 (lK T S (dD T i) r).2/\Sg T i (lK T S (dD T i) r).1.next (ps (lK T S (dD T i) r).2):=by
 intro r hr hi hc;have a1:=lN he hG r hr;have a2:=aP he a1.lt (show aQ [20] 0=false by decide);unfold lK at hc ⊢;dsimp only at hc ⊢;obtain⟨m1,m2,m3⟩:=iI hS _ a2.lt hc;obtain⟨h5,h6,h7,h8⟩:=bR m1;obtain⟨k1,k2,k3⟩:=qY he hS r hr h5;refine⟨k1,Ws.of (x:=0) (y:=0) rfl (OkA.mk_ (.inr ⟨i,rfl⟩) hT Od Od Od Od Od) k2 m2,?_⟩;rw[h7]at m3;rw[hi]at k3;have:=((Sg.one i).app k3).app (m3.mono (i':=(gR T S r).1.next) Oa Ol);simpa[ps,mk,eO,List.append_assoc]using this
theorem pI{S:Pr}(hG:aZ T S)(hS:Ok T 2 S):∀ n r,r.next < T.length->(cL T S n r).1.code=0->r.code=0/\Ws 14 (cL T S n r).2/\Sg T r.next (cL T S n r).1.next (ps (cL T S n r).2):=by
 intro n
 induction n with
 |zero=>intro r _ hc;exact⟨hc,by unfold cL Ws bK;omega,Sg.nil Ol⟩
 |succ n ih=>
  intro r hr hc;unfold cL at hc ⊢
  by_cases hs:aN T r [15,0]=true
  ·rw[if_pos hs]at hc ⊢;exact⟨hc,by unfold Ws bK;omega,Sg.nil Ol⟩
  ·rw[if_neg hs]at hc ⊢;have a2:=hG _ hr;obtain⟨h1,h2,h3⟩:=ih _ a2.lt hc;obtain⟨k1,k2,k3⟩:=hS _ hr h1;exact⟨k1,Ws.of (x:=2) (y:=14) rfl ⟨Ob,Od,Od,Od,Od,Od⟩ k2 h2,k3.app h3⟩
def aIA(T:List Tok)(S:Pr):Prop:=∀ r,r.next < T.length->(S r).1.code=0->r.next < (S r).1.next
theorem aG4{S:Pr}(hG:aZ T S)(hS:Ok T 2 S)(hA:aIA T S):∀ n r,r.next < T.length->(cL T S n r).1.code=0->aO (cL T S n r).2+r.next<=(cL T S n r).1.next:=by
 intro n
 induction n with
 |zero=>intro r _ _;show 0+r.next<=r.next;omega
 |succ n ih=>
  intro r hr hc;have hall:=pI hG hS (n+1) r hr hc;unfold cL at hc ⊢
  by_cases hs:aN T r [15,0]=true
  ·rw[if_pos hs]at hc ⊢;show 0+r.next<=r.next;omega
  ·rw[if_neg hs]at hc ⊢;have a2:=hG _ hr;have h1:=ih _ a2.lt hc;have h2:=hA _ hr (pI hG hS n _ a2.lt hc).1;show aO (cL T S n (S r).1).2+1+r.next<=_;dsimp only;omega
theorem aCA{S:Pr}(hS:aZ T S)(n:Nat)(r:Rd)(h:r.next < T.length):Adv T r (cL T S n r).1:=xC hS n r h
theorem aN8(hT:eF T)(he:cY T){S:Pr}(hG:aZ T S)(hS:Ok T 2 S)(hA:aIA T S)(n:Nat):Ok T 4 (qI T S n):=by
 intro r hr hc;obtain⟨o1,o2,o3⟩:=dF he hr (show aQ [14] 0=false by decide);obtain⟨h1,h2⟩:=pV hc;obtain⟨k1,k2,k3⟩:=pI hG hS n _ o2 h1;obtain⟨m1,m2⟩:=mR k1;have hln:=aG4 hG hS hA n _ o2 h1;have hlt:=(aCA hG n _ o2).lt;have hfw:=hT.few;obtain⟨m3,m4⟩:=rV (s:=4) Oa k2 Oa;refine⟨m1,m3,?_⟩;show Sg T _ _ (ps (gE _));rw[m4];exact k3.mono o1 (by show _<=(Rd.shut T _ 15).next;rw[h2];omega)
theorem aRQ(hT:eF T)(he:cY T){C B:Pr}(h0:aZ T C)(hC:Ok T 1 C)(h4:aZ T B)(hB:Ok T 4 B):Ok T 2 (ifP T C B):=by
 intro r hr hc;have a1:=h0 r hr;have a2:=h4 _ a1.lt;have a3:=dU he a2.lt (show aQ [8] 0=false by decide);unfold ifP at hc ⊢;dsimp only at hc ⊢
 by_cases hs:aN T (B (C r).1).1 [8]=true
 ·rw[if_pos hs]at hc ⊢;obtain⟨h1,h2,h3⟩:=hB _ a3.lt hc;obtain⟨k1,k2,k3⟩:=hB _ a1.lt (pE h1);obtain⟨m1,m2,m3⟩:=hC r hr k1;refine⟨m1,Ws.of (x:=1) (y:=9) rfl (OkA.mk_ Ox hT Od Od Od Od Od) m2 (Ws.of (x:=4) (y:=4) rfl (OkA.mk_ Ox hT Od Od Od Od Od) k2 h2),?_⟩;have:=(m3.app k3).app (h3.mono (uH _ _) Ol);simpa[ps,mk,eO,List.append_assoc]using this
 ·rw[if_neg hs]at hc ⊢;obtain⟨k1,k2,k3⟩:=hB _ a1.lt hc;obtain⟨m1,m2,m3⟩:=hC r hr k1;refine⟨m1,Ws.of (x:=1) (y:=9) rfl (OkA.mk_ Ox hT Od Od Od Od Od) m2 (Ws.of (x:=4) (y:=4) rfl (OkA.mk_ Ox hT Od Od Od Od Od) k2 (by unfold Ws bK;omega)),?_⟩;have:=m3.app k3;simpa[ps,mk,eO,List.append_assoc]using this
theorem aHS(hT:eF T)(he:cY T){S C B:Pr}(hG:aZ T S)(hS:Ok T 0 S)(h0:aZ T C)(hC:Ok T 1 C)(h1:aZ T B)(hB:Ok T 4 B):Ok T 2 (eL T S C B):=by
 intro r hr hc;have a1:=aP he hr (show aQ aR 0=false by decide);unfold eL at hc ⊢;dsimp only at hc ⊢
 by_cases k6:(cN T r aR).kind=6
 ·rw[if_pos k6]at hc ⊢;have a2:=aP he a1.lt (show aQ [1] 0=false by decide)
  have key:((r.take T aR).take T [1]).code=0:=by
   obtain⟨m1,_,_⟩:=iI hS _ (aP he a2.lt (show aQ [20] 0=false by decide)).lt hc;exact(bR m1).1
  obtain⟨m5,m6,m7,m8⟩:=bR key;obtain⟨h5,h6,h7,h8⟩:=bR m5;rw[m8]at hc ⊢;obtain⟨q1,q2,q3⟩:=aN4 hT he hS true _ _ a2.lt m7 hc;exact⟨h5,q2,q3.mono Oa Ol⟩
 rw[if_neg k6]at hc ⊢
 by_cases k7:(cN T r aR).kind=7
 ·rw[if_pos k7]at hc ⊢;obtain⟨q1,q2,q3⟩:=aRQ hT he h0 hC h1 hB _ a1.lt hc;obtain⟨h5,h6,h7,h8⟩:=bR q1;exact⟨h5,q2,q3.mono Oa Ol⟩
 rw[if_neg k7]at hc ⊢
 by_cases k9:(cN T r aR).kind=9
 ·rw[if_pos k9]at hc ⊢;have a2:=h0 _ a1.lt;obtain⟨q1,q2,q3⟩:=hB _ a2.lt hc;obtain⟨p1,p2,p3⟩:=hC _ a1.lt q1;obtain⟨h5,h6,h7,h8⟩:=bR p1;refine⟨h5,Ws.of (x:=1) (y:=4) rfl (OkA.mk_ Ox hT Od Od Od Od Od) p2 q2,?_⟩;have:=(p3.app q3).mono (i':=r.next) Oa Ol;simpa[ps,mk,eO,List.append_assoc]using this
 rw[if_neg k9]at hc ⊢
 by_cases k10:(cN T r aR).kind=10
 ·rw[if_pos k10]at hc ⊢;obtain⟨q1,q2,q3⟩:=iI hS _ a1.lt hc;obtain⟨h5,h6,h7,h8⟩:=bR q1;refine⟨h5,Ws.of (x:=0) (y:=99) rfl (OkA.mk_ Ox hT Od Od Od Od Od) q2 Ws.nil99,?_⟩;have:=q3.mono (i':=r.next) Oa Ol;simpa[ps,mk,eO,List.append_assoc]using this
 rw[if_neg k10]at hc ⊢
 by_cases k11:(cN T r aR).kind=11
 ·rw[if_pos k11]at hc ⊢;obtain⟨q1,q2,q3⟩:=iI hS _ a1.lt hc;obtain⟨h5,h6,h7,h8⟩:=bR q1;refine⟨h5,Ws.of (x:=0) (y:=99) rfl (OkA.mk_ Ox hT Od Od Od Od Od) q2 Ws.nil99,?_⟩;have:=q3.mono (i':=r.next) Oa Ol;simpa[ps,mk,eO,List.append_assoc]using this
 rw[if_neg k11]at hc ⊢
 by_cases k16:aN T (r.take T aR) [16]=true
 ·rw[if_pos k16]at hc ⊢
  have key:(r.take T aR).code=0:=by
   have b1:=lN he hG _ a1.lt;obtain⟨m1,_,_⟩:=iI hS _ (aP he b1.lt (show aQ [20] 0=false by decide)).lt hc;exact(qY he hS _ a1.lt (bR m1).1).1
  obtain⟨h5,h6,h7,h8⟩:=bR key;rw[h8]at hc ⊢;obtain⟨q1,q2,q3⟩:=aN3 hT he hG hS _ _ a1.lt h7 hc;exact⟨h5,q2,q3⟩
 ·rw[if_neg k16]at hc ⊢
  have key:(r.take T aR).code=0:=by
   obtain⟨m1,_,_⟩:=iI hS _ (aP he a1.lt (show aQ [20] 0=false by decide)).lt hc;exact(bR m1).1
  obtain⟨h5,h6,h7,h8⟩:=bR key;rw[h8]at hc ⊢;obtain⟨q1,q2,q3⟩:=aN4 hT he hS false _ _ a1.lt h7 hc;exact⟨h5,q2,q3⟩
theorem aIW(hT:eF T)(he:cY T){S C B:Pr}(hG:aZ T S)(hS:Ok T 0 S)(h0:aZ T C)(hC:Ok T 1 C)(h1:aZ T B)(hB:Ok T 4 B){r:Rd}(hr:r.next < T.length)(hc:(eL T S C B r).1.code=0):(r.take T aR).code=0:=by
 have a1:=aP he hr (show aQ aR 0=false by decide);unfold eL at hc;dsimp only at hc
 by_cases k6:(cN T r aR).kind=6
 ·rw[if_pos k6]at hc;have a2:=aP he a1.lt (show aQ [1] 0=false by decide);obtain⟨m1,_,_⟩:=iI hS _ (aP he a2.lt (show aQ [20] 0=false by decide)).lt hc;exact(bR (bR m1).1).1
 rw[if_neg k6]at hc
 by_cases k7:(cN T r aR).kind=7
 ·rw[if_pos k7]at hc;exact(aRQ hT he h0 hC h1 hB _ a1.lt hc).1
 rw[if_neg k7]at hc
 by_cases k9:(cN T r aR).kind=9
 ·rw[if_pos k9]at hc;exact(hC _ a1.lt (hB _ (h0 _ a1.lt).lt hc).1).1
 rw[if_neg k9]at hc
 by_cases k10:(cN T r aR).kind=10
 ·rw[if_pos k10]at hc;exact(iI hS _ a1.lt hc).1
 rw[if_neg k10]at hc
 by_cases k11:(cN T r aR).kind=11
 ·rw[if_pos k11]at hc;exact(iI hS _ a1.lt hc).1
 rw[if_neg k11]at hc
 by_cases k16:aN T (r.take T aR) [16]=true
 ·rw[if_pos k16]at hc;have b1:=lN he hG _ a1.lt;obtain⟨m1,_,_⟩:=iI hS _ (aP he b1.lt (show aQ [20] 0=false by decide)).lt hc;exact(qY he hS _ a1.lt (bR m1).1).1
 ·rw[if_neg k16]at hc;obtain⟨m1,_,_⟩:=iI hS _ (aP he a1.lt (show aQ [20] 0=false by decide)).lt hc;exact(bR m1).1
theorem aFJ(hT:eF T)(he:cY T){S C B:Pr}(hG:aZ T S)(hS:Ok T 0 S)(h0:aZ T C)(hC:Ok T 1 C)(h2:aZ T B)(hB:Ok T 4 B):aIA T (eL T S C B):=by
 intro r hr hc;have a1:=aP he hr (show aQ aR 0=false by decide);have h1:=(bR (aIW hT he hG hS h0 hC h2 hB hr hc)).2.2.1
 have h3:Adv T (r.take T aR) (eL T S C B r).1:=by
  unfold eL;dsimp only
  split
  ·have a2:=aP he a1.lt (show aQ [1] 0=false by decide);exact a2.trans (pL he hG _ _ _ a2.lt)
  split
  ·exact aC9 he h0 h2 _ a1.lt
  split
  ·exact(h0 _ a1.lt).trans (h2 _ (h0 _ a1.lt).lt)
  split
  ·exact jH he hG _ a1.lt
  split
  ·exact jH he hG _ a1.lt
  split
  ·exact tN he hG _ _ a1.lt
  ·exact pL he hG _ _ _ a1.lt
 have:=h3.ge;omega
def aHO(s:Nat):Nat:=if s < 3 then 0 else if s < 6 then 1 else if s=6 then 4 else 2
theorem aJJ(hT:eF T)(he:cY T):∀ n,(∀ s,Ok T (aHO s) (iH T n s))/\aIA T (iH T n 7):=by
 intro n
 induction n with
 |zero=>exact⟨fun s r _ hc=>absurd hc (mS Ob),fun r _ hc=>absurd hc (mS Ob)⟩
 |succ n ih=>
  obtain⟨ih,it⟩:=ih;have hg:=gF he n;refine⟨fun s=>?_,aFJ hT he (hg 2) (ih 2) (hg 5) (ih 5) (hg 6) (ih 6)⟩
  match s with
  |0=>exact aJL hT he (hg 2) (ih 2) (ih 0) n
  |1=>exact aDX hT he (hg 0) (ih 0) Ob Ob n
  |2=>exact aDX hT he (hg 1) (ih 1) Ob Ob n
  |3=>exact yQ hT he 0 1 (.inl ⟨rfl,rfl⟩) (hg 2) (ih 2)
  |4=>exact aDW hT he (hg 3) (ih 3) Ox Ob n
  |5=>exact aDW hT he (hg 4) (ih 4) Oy Ob n
  |6=>exact aN8 hT he (hg 7) (ih 7) it n
  |s+7=>exact aHS hT he (hg 2) (ih 2) (hg 5) (ih 5) (hg 6) (ih 6)
theorem pH(hT:eF T)(he:cY T)(n s:Nat):Ok T (aHO s) (iH T n s):=(aJJ hT he n).1 s
theorem aN5(hT:eF T)(_he:cY T):Ok T 22 (nK T):=by
 intro r hr hc;obtain⟨h5,h6,h7,h8⟩:=bR hc;refine⟨h5,Ws.of (x:=99) (y:=99) rfl (OkA.mk_ (.inr ⟨r.next,by rw[h8]⟩) hT Od Od Od Od Od) Ws.nil99 Ws.nil99,?_⟩;have:=Sg.one (T:=T) r.next;rw[<-h7]at this;simpa[ps,mk,eO,nK,h8]using this
theorem aDY(hT:eF T)(he:cY T):Ok T 7 (fQ T):=by
 intro r hr hc;have a1:=aP he hr (show aQ [1] 0=false by decide);unfold fQ at hc ⊢;dsimp only at hc ⊢;obtain⟨l5,l6,l7,l8⟩:=bR hc;obtain⟨m5,m6,m7,m8⟩:=bR l5;obtain⟨h5,h6,h7,h8⟩:=bR m5;have hv:=hT.at (r.take T [1]).next;refine⟨h5,Ws.of (x:=99) (y:=99) rfl (OkA.mk_ (.inr ⟨r.next,by rw[h8]⟩) hT (by rw[m8];constructor<;>simp<;>omega) (fun _=>by rw[m8];exact hv.2.1) Od Od Od) Ws.nil99 Ws.nil99,?_⟩;have:=(Sg.one (T:=T) r.next).mono Ol (j':=(((r.take T [1]).take T [2]).take T [19]).next) Oa;simpa[ps,mk,eO,h8]using this
theorem aJK(hT:eF T)(he:cY T)(n:Nat):Ok T 6 (aV T n):=by
 intro r hr hc;unfold aV at hc ⊢
 by_cases hs:aN T r [1]=true
 ·rw[if_pos hs]at hc ⊢;exact aBZ hT he (s:=22) (s2:=6) rfl Oa (tO he) (aN5 hT he) n r hr hc
 ·rw[if_neg hs]at hc ⊢;exact⟨hc,by unfold Ws bK;omega,Sg.nil Ol⟩
theorem aJI(hT:eF T)(he:cY T)(n:Nat):Ok T 5 (dA T n):=by
 intro r hr hc;unfold dA at hc ⊢
 by_cases hs:aN T r [5]=true
 ·rw[if_pos hs]at hc ⊢;have a:=dU he hr (show aQ [5] 0=false by decide);obtain⟨k1,k2,k3⟩:=aBZ hT he (s:=20) (s2:=5) rfl Oa (uV he) (aSM hT he) n _ a.lt hc;exact⟨pE k1,k2,k3.mono (uH _ _) Ol⟩
 ·rw[if_neg hs]at hc ⊢;exact⟨hc,by unfold Ws bK;omega,Sg.nil Ol⟩
theorem wZ(hT:eF T)(he:cY T){B:Pr}(_hGB:aZ T B)(hB:Ok T 4 B)(n:Nat):Ok T 7 (cZ T B n):=by
 intro r hr hc;have a1:=aP he hr (show aQ [1] 0=false by decide);obtain⟨o1,o2,o3⟩:=dF he a1.lt (show aQ [12] 0=false by decide);rw[mN]at hc ⊢;dsimp only at hc ⊢;have p1:=bCX he n _ o2;have a2:=lC he o1 o3 p1 (show aQ [13] 0=false by decide);have w1:=oM he n _ a2.lt;obtain⟨b1,b2,b3⟩:=hB _ w1.lt hc;obtain⟨w3,w4,w5⟩:=aJI hT he n _ a2.lt b1;obtain⟨s1,s2⟩:=pV w3;obtain⟨p3,p4,p5⟩:=aJK hT he n _ o2 s1;obtain⟨m1,m2⟩:=mR p3;obtain⟨h5,h6,h7,h8⟩:=bR m1;refine⟨h5,Ws.of (x:=6) (y:=23) rfl (OkA.mk_ (.inr ⟨r.next,by rw[h8]⟩) hT Od Od Od Od Od) p4 (Ws.of (x:=5) (y:=4) rfl (OkA.mk_ Ox hT Od Od Od Od Od) w4 b2),?_⟩;have:=(((Sg.one (T:=T) r.next).app (p5.mono (i':=r.next+1) Oa Ol)).app (w5.mono (i':=(aV T n ((r.take T [1]).opened T [12])).1.next) Oa Ol)).app b3;simpa[ps,mk,eO,h8,List.append_assoc]using this
theorem mB(hT:eF T)(he:cY T){B:Pr}(h0:aZ T B)(hB:Ok T 4 B)(m:Nat):∀ n r,r.next < T.length->(aJ T B m n r).1.code=0->r.code=0/\Ws 18 (aJ T B m n r).2/\Sg T r.next (aJ T B m n r).1.next (ps (aJ T B m n r).2):=by
 intro n
 induction n with
 |zero=>intro r _ hc;exact⟨hc,by unfold aJ Ws bK;omega,Sg.nil Ol⟩
 |succ n ih=>
  intro r hr hc;unfold aJ at hc ⊢;dsimp only at hc ⊢
  by_cases hs:aN T r [0]=true
  ·rw[if_pos hs]at hc ⊢;exact⟨hc,by unfold Ws bK;omega,Sg.nil Ol⟩
  rw[if_neg hs]at hc ⊢;have a1:=aP he hr (show aQ [3,4] 0=false by decide)
  by_cases k3:(cN T r [3,4]).kind=3
  ·rw[if_pos k3]at hc ⊢;have a2:=nS he _ a1.lt;obtain⟨q1,q2,q3⟩:=ih _ a2.lt hc;obtain⟨p1,p2,p3⟩:=aDY hT he _ a1.lt q1;obtain⟨h5,h6,h7,h8⟩:=bR p1;exact⟨h5,Ws.of (x:=7) (y:=18) rfl ⟨Ob,Od,Od,Od,Od,Od⟩ p2 q2,(p3.app q3).mono Oa Ol⟩
  rw[if_neg k3]at hc ⊢
  by_cases k4:(cN T r [3,4]).kind=4
  ·rw[if_pos k4]at hc ⊢;have a2:=jX he h0 m _ a1.lt;obtain⟨q1,q2,q3⟩:=ih _ a2.lt hc;obtain⟨p1,p2,p3⟩:=wZ hT he h0 hB m _ a1.lt q1;obtain⟨h5,h6,h7,h8⟩:=bR p1;exact⟨h5,Ws.of (x:=7) (y:=18) rfl ⟨Ob,Od,Od,Od,Od,Od⟩ p2 q2,(p3.app q3).mono Oa Ol⟩
  ·rw[if_neg k4]at hc ⊢;obtain⟨q1,q2,q3⟩:=ih _ a1.lt hc;obtain⟨h5,h6,h7,h8⟩:=bR q1;exact⟨h5,q2,q3.mono Oa Ol⟩
theorem oV(_hT:eF T)(he:cY T){B:Pr}(h0:aZ T B)(m:Nat):∀ n r,r.next < T.length->Adv T r (aJ T B m n r).1:=by
 intro n
 induction n with
 |zero=>intro r hr;exact Adv.refl hr
 |succ n ih=>
  intro r hr;unfold aJ;dsimp only;have a1:=aP he hr (show aQ [3,4] 0=false by decide)
  split
  ·exact Adv.refl hr
  split
  ·have a2:=a1.trans (nS he _ a1.lt);exact a2.trans (ih _ a2.lt)
  split
  ·have a2:=a1.trans (jX he h0 m _ a1.lt);exact a2.trans (ih _ a2.lt)
  ·exact a1.trans (ih _ a1.lt)
theorem uN(hT:eF T)(he:cY T){B:Pr}(h0:aZ T B)(hB:Ok T 4 B)(m:Nat):∀ n r,r.next < T.length->(aJ T B m n r).1.code=0->aO (aJ T B m n r).2+r.next<=(aJ T B m n r).1.next:=by
 intro n
 induction n with
 |zero=>intro r _ _;show 0+r.next<=r.next;omega
 |succ n ih=>
  intro r hr hc;unfold aJ at hc ⊢;dsimp only at hc ⊢
  by_cases hs:aN T r [0]=true
  ·rw[if_pos hs]at hc ⊢;show 0+r.next<=r.next;omega
  rw[if_neg hs]at hc ⊢;have a1:=aP he hr (show aQ [3,4] 0=false by decide)
  by_cases k3:(cN T r [3,4]).kind=3
  ·rw[if_pos k3]at hc ⊢;have a2:=nS he _ a1.lt;have h1:=ih _ a2.lt hc;have h2:=(bR (aDY hT he _ a1.lt (mB hT he h0 hB m n _ a2.lt hc).1).1).2.2.1;have h3:=a2.ge;show aO (aJ T B m n (fQ T (r.take T [3,4])).1).2+1+r.next<=_;dsimp only;omega
  rw[if_neg k3]at hc ⊢
  by_cases k4:(cN T r [3,4]).kind=4
  ·rw[if_pos k4]at hc ⊢;have a2:=jX he h0 m _ a1.lt;have h1:=ih _ a2.lt hc;have h2:=(bR (wZ hT he h0 hB m _ a1.lt (mB hT he h0 hB m n _ a2.lt hc).1).1).2.2.1;have h3:=a2.ge;show aO (aJ T B m n (cZ T B m (r.take T [3,4])).1).2+1+r.next<=_;dsimp only;omega
  ·rw[if_neg k4]at hc ⊢;have h1:=ih _ a1.lt hc;have h3:=a1.ge;omega
theorem qA(hT:eF T)(he:cY T)(hp:0 < T.length)(hc:(bP T).1.code=0):Ws 8 (bP T).2/\Sg T 0 T.length (ps (bP T).2):=by
 have hg:=gF he (bY T) 6;obtain⟨_,h2,h3⟩:=mB hT he hg (pH hT he (bY T) 6) (bY T) (bY T) rd0 hp hc;have hln:=uN hT he hg (pH hT he (bY T) 6) (bY T) (bY T) rd0 hp hc;have hlt:=(oV hT he hg (bY T) (bY T) rd0 hp).lt;have hfw:=hT.few;obtain⟨m1,m2⟩:=rV (s:=8) Oa h2 Oa;refine⟨m1,?_⟩;show Sg T _ _ (ps (gE _));rw[m2];exact h3.mono (Qe _) (Nat.le_of_lt (oV hT he hg (bY T) (bY T) rd0 hp).lt)
end Go.Proofs.YtikffmloeifkpaaGreatDoor
