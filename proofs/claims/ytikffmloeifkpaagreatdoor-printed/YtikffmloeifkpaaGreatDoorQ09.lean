/- Contracts. -/
import Derived.Test.YtikffmloeifkpaaGreatDoorQ08
import Derived.Test.YtikffmloeifkpaaGreatDoorQ07
set_option maxHeartbeats 8000000
set_option maxRecDepth 100000
namespace Go.Proofs.YtikffmloeifkpaaGreatDoor
open Go.RowKit Go.Lib Go.Deep
theorem aHA{T:List Tok}{r:Rd}(h:r.next+1 < T.length)(ks:List Int):r.next+1<=(r.take T ks).next:=by
 unfold Rd.take
 split
 ·exact Qc _
 ·have:=lP T.length r 2 (dD T r.next).pos;omega
theorem aDC{T:List Tok}(he:cY T){S C B:Pr}(hS:aZ T S)(hC:aZ T C)(hB:aZ T B)(n:Nat):aGZ T n (eL T S C B):=fun r hd h=>by
 have a1:=aP he (show r.next < T.length by omega) (show aQ aR 0=false by decide);refine Qd (aHA h aR) (Adv.ge (T:=T) ?_);unfold eL;dsimp only
 split
 ·have a2:=aP he a1.lt (show aQ [1] 0=false by decide);exact a2.trans (pL he hS _ _ _ a2.lt)
 ·split
  ·exact aC9 he hC hB _ a1.lt
  ·split
   ·exact(hC _ a1.lt).trans (hB _ (hC _ a1.lt).lt)
   ·split
    ·exact jH he hS _ a1.lt
    ·split
     ·exact jH he hS _ a1.lt
     ·split
      ·exact tN he hS _ _ a1.lt
      ·exact pL he hS _ _ _ a1.lt
def aUF(s:Nat):Nat:=match s with
 |0=>362
 |1=>353
 |2=>335
 |3=>351
 |4=>334
 |5=>299
 |6=>192
 |_=>246
theorem vC{T:List Tok}{n q p:Nat}{r:Rd}(h:Dm T (n+1) q r)(hq:p < q):Dm T n p r:=by
 obtain⟨h1,h2,h3⟩:=h;exact⟨Oa,h2,Oa⟩
theorem aJD(T:List Tok)(he:cY T)(g cap b:Nat):∀ n s,s<=7->dI T g cap b (aUF s) (iH T n s) (Dm T n s):=by
 intro n
 induction n with
 |zero=>exact fun s _ r w _ hd=>absurd hd.1 (Nat.not_lt_zero _)
 |succ n ih=>
  have G:=fun s=>gF he n s;have O:=fun s=>aDI (T:=T) n s;have Oe:=(O 2).1 Ob;have Oc:=(O 5).2.1 Ob Ob;intro s hs r w h hd
  match s,hs with
  |0,_=>exact aGM T g cap b n _ _ r w (ih 2 Ob) (G 2) Oe (ih 0 Ob) (G 0) ((O 0).1 Ob) h hd
  |1,_=>exact aLF T g cap b n _ r w (ih 0 Ob) (G 0) ((O 0).1 Ob) h (vC hd Ob)
  |2,_=>exact aO4 T g cap b n _ r w (ih 1 Ob) (G 1) ((O 1).1 Ob) h (vC hd Ob)
  |3,_=>exact aOJ T g cap b n _ r w (ih 2 Ob) (G 2) Oe h (vC hd Ob)
  |4,_=>exact aOG T g cap b n _ r w (ih 3 Ob) (G 3) ((O 3).2.1 Ob Ob) h (vC hd Ob)
  |5,_=>exact aOI T g cap b n _ r w (ih 4 Ob) (G 4) ((O 4).2.1 Ob Ob) h (vC hd Ob)
  |6,_=>
   refine aKV T g cap b n _ r w (ih 7 Ob) (G 7) ((O 7).2.2.2 Ob) ?_ h hd;cases n with
   |zero=>exact fun r hd=>absurd hd.1 (Nat.not_lt_zero _)
   |succ n=>exact aDC he (gF he n 2) (gF he n 5) (gF he n 6) _
  |7,_=>exact aLT T g cap b n _ _ _ r w (ih 2 Ob) (G 2) Oe (ih 5 Ob) (G 5) Oc (ih 6 Ob) (G 6) ((O 6).2.2.1 rfl) h hd
def aJR:Tr->Value
 | .nil=> .agg #[]
 | .node _ _ a _ _=>fV a.name a.npos
def SoN(S:Pr):Prop:=∀ r,∃ a x y,(S r).2=mk a x y/\19<=a.tag/\(a.tag < 20/\a.which=0)
theorem Tryz.infoN:(Tryz.prog.info? 100).map (fun i=>(i.zero,i.size,i.bytes))=some (some (.agg #[.string (ByteArray.mk #[]),.int .i64 0,.int .i64 0]),3,32):=by kernel_rfl
theorem aRI{t:Tr}{a:Nd}{x y:Tr}(h:er t=mk a x y)(h1:19<=a.tag)(h2:a.tag < 20/\a.which=0):cP t=[.string a.name,.int .i64 a.npos,.int .i64 0]/\bL (cons t .nil)=100/\∃ b o a l q,t= .node b o a l q/\(a.tag=19↔3=3):=by
 obtain⟨b,o,l,r,rfl,_,_⟩:=oI h;have h3:a.tag=19:=Oa
 exact⟨(if_pos h3).trans (by rw[h2.2]),if_pos h3,b,o,a,l,r,rfl,⟨fun _=>rfl,fun _=>h3⟩⟩
theorem aD7{t:Tr}(h:∃ b o a l q,t=BT.node b o a l q/\(a.tag=19↔True)):∃ b o a l q,t=BT.node b o a l q/\(a.tag=19↔3=3):=by
 obtain⟨b,o,a,l,q,hx,hy⟩:=h;exact⟨b,o,a,l,q,hx,by simpa using hy⟩
theorem aH5{t:Tr}{a:Nd}{x y:Tr}(h:er t=mk a x y):aJR t= .agg #[.string a.name,.int .i64 a.npos,.int .i64 0]:=by
 obtain⟨b,o,l,r,rfl,_,_⟩:=oI h;rfl
theorem aK0(T:List Tok)(g cap b f n qr:Nat)(S:Pr)(r:Rd)(w:World)(hf:∀ args wx,(callFunc f args).run Tryz.prog wx= .ok (.enter f args) wx)(hS:uA T g cap b f S (Dm T n qr) aJR)(hG:aZ T S)(hO:SoN S)(h:RdW T g cap b r w)(hd:Dm T n qr r):
 Calls Tryz.prog 187 #[.pointer (some ⟨b,0,none⟩),fv f b] w (jL T g cap b w (fX T S n r) bCH):=by
 have HS:Hid (uA T g cap b f S (Dm T n qr) aJR):=hS;have HG:Hid (aZ T S):=hG;have HO:Hid (SoN S):=hO;clear hS hG hO;obtain⟨i0,j7,z8,z7,z6⟩:=info_parts Tryz.infoN;unfold fv;go_enter Tryz.func187,Tryz.ntmps187
 go_wp2_with fail
 refine(HS.out r w h hd).mono ?_;rintro e w1 ⟨t,rfl,ht,it,h1,e1⟩;have HT:Hid (er t=(S r).2):=ht;clear ht;have a1:=HG.out r h.lt;have z4:=hd.adv a1;have hfew:=h.few;obtain⟨sa,sx,sy,y9,j3,j2⟩:=HO.out r;obtain⟨z1,k0,j5⟩:=aRI (HT.out.trans y9) j3 j2;have hv:=aH5 (HT.out.trans y9);have HV:Hid (aJR t= .agg #[.string sa.name,.int .i64 sa.npos,.int .i64 0]):=hv;have HE:Hid (cP t=[.string sa.name,.int .i64 sa.npos,.int .i64 0]):=z1;have z5:Hid (bL (cons t .nil)=100):=k0;rw[hv];clear hv z1 k0;have own1:(w1.alloc (.cells #[.string sa.name,.int .i64 sa.npos,.int .i64 0] 100)).ownsRow w.heap.size 100 3 (.slice (some ⟨w1.heap.size,0,none⟩) 1 1) 1 [.string sa.name,.int .i64 sa.npos,.int .i64 0]:=qX e1.size rfl;go_wp2_with fail
 go_loopg [5] n (fun m v wr=>∃ (rc:Rd) (acc:Tr),wr.ownsRow w.heap.size 100 3 v (aO acc) (cT acc)/\acc≠ .nil/\bL acc=100/\jZ 3 acc/\New w.heap.size wr acc/\(∀ k,v.ownBlock=some k->dV k acc)/\RdW T g cap b rc wr/\Ex b w wr/\Dm T n qr rc/\T.length - rc.next<=m/\aO acc<=rc.next+1/\
  app (er acc) (bEG T S m rc).2=cons (S r).2 (bEG T S n (S r).1).2/\(bEG T S m rc).1=(bEG T S n (S r).1).1)
 case atStart=>
  refine⟨_,cons t .nil,?_,?_,z5.out,⟨rfl,aD7 j5,by rw[HE.out];rfl,trivial⟩,(it.ex h1 ((Ex.refl b w1).alloc _)).cons (New.nil _ _),?_,h1.alloc _,e1.alloc _,z4,?_,?_,?_,rfl⟩
  ·show World.ownsRow _ _ _ _ _ 1 (cP t++[]);rw[HE.out];exact own1
  ·intro e;cases e
  ·intro k hk;simp only[Value.ownBlock,Option.some.injEq]at hk;subst hk;exact⟨it.out Ol,trivial,fun p=>absurd rfl p.1⟩
  ·have:=z4.1;omega
  ·show 0+1<=_;omega
  ·show cons (er t) _=_;rw[HT.out];rfl
 case round=>
  obtain⟨rc,acc,own,y0,k0,k5,iac,z0,hc,ec,y4,hm,hlen,h9,h0⟩:=hrel;have HR:Hid (app (er acc) (bEG T S gk rc).2=cons (S r).2 (bEG T S n (S r).1).2):=h9;have k7:Hid ((bEG T S gk rc).1=(bEG T S n (S r).1).1):=h0;have h8:Hid (bL acc=100):=k0;clear h9 h0 k0 own1;obtain⟨gg,cp,j1⟩:=vU own (uO y0);subst j1;have y5:=hc.alloc (.cells #[.int .i64 18] 141);have e2:=(Ex.refl b wr).alloc (.cells #[.int .i64 18] 141);have ia2:=iac.ex hc e2;have own2:=own.alloc (.cells #[.int .i64 18] 141);have j6:=bM wr [18] #[.int .i64 18] rfl;go_wp2_with fail
  refine(lL T g cap b rc wr.heap.size 1 [18] _ y5 j6 Ob Ob).mono ?_;rintro e W3 ⟨rfl,k3,e3⟩;have ia3:=ia2.ex y5 e3;have own3:=gC own2 y5.blk Ob e3;have ec3:=(ec.trans e2).trans e3;have y2:=hc.lt;have a3:=dU hc.ends y2 (show aQ [18] 0=false by decide);have z3:=y4.adv a3;cases hs:aN T rc [18]
  ·have y8:rc.skips T [18]=rc:=by unfold Rd.skips;rw[hs];rfl
   rw[y8]at k3
   have k1:bEG T S gk rc=(rc,.nil):=by
    cases gk with
    |zero=>rfl
    |succ gk=>show(if _ then _ else _)=_;rw[if_neg (by rw[hs];decide)]
   have h2:=HR.out;have h3:=k7.out;rw[k1]at h2 h3;rw[vJ]at h2
   have fin:jL T g cap b w (fX T S n r) bCH (.returned (.slice (some ⟨gg,0,none⟩) (aO acc) cp)) W3:=by
    refine⟨.node gg cp {tag:=20} acc .nil,rfl,?_,New.listed y0 k5 ia3 (by rw[h8.out];exact own3),?_,ec3⟩
    ·show BT.node 0 0 _ (er acc) .nil=gE (cons (S r).2 (bEG T S n (S r).1).2);rw[h2];rfl
    ·show RdW T g cap b (bEG T S n (S r).1).1 W3;rw[<-h3];exact k3
   clear h2 h3 k1 y8 HR k7;go_wp2;go_ret;exact fin
  ·have HN:Hid ((rc.skips T [18]).next=rc.next+1):=lW hs;go_wp2_with fail
   refine(HS.out _ _ k3 z3).mono ?_;rintro e W5 ⟨t5,rfl,y7,it5,h5,e5⟩;have k6:Hid (er t5=(S (rc.skips T [18])).2):=y7;obtain⟨ya,yx,yy,k8,j0,z9⟩:=HO.out (rc.skips T [18]);obtain⟨k2,_,y1⟩:=aRI (k6.out.trans k8) j0 z9;have k9:=aH5 (k6.out.trans k8);have j9:Hid (aJR t5= .agg #[.string ya.name,.int .i64 ya.npos,.int .i64 0]):=k9;have y6:Hid (cP t5=[.string ya.name,.int .i64 ya.npos,.int .i64 0]):=k2;rw[k9];clear k9 k8 y7 k2;obtain⟨m,rfl⟩:=Oj gk;have a5:=a3.trans (HG.out _ a3.lt);have z2:=y4.adv a5;have own5:=gC own3 k3.blk Ob e5;have ia5:=ia3.ex k3 e5;have ec5:=ec3.trans e5;have hw5:=ec5.size;have hnx:=HN.out;have hge:=(HG.out _ a3.lt).ge;have hltS:=(HG.out _ a3.lt).lt;have hl4:aO acc<=5000:=Oa
   go_wp2_with (at_builtin;refine wpList_append_lies _ rfl _ _ 101 rfl w.heap.size 100 i0 _ 3 32 Tryz.underlying101 j7 z8 z7 z6 rfl Oa (.slice (some ⟨gg,0,none⟩) (aO acc) cp) (aO acc) (cT acc) rfl (own5.alloc _) ⟨W5.heap.size,0,none⟩ 1 1 [.string ya.name,.int .i64 ya.npos,.int .i64 0] rfl rfl (World.news_of_block (cs:=#[.string ya.name,.int .i64 ya.npos,.int .i64 0]) (t:=100) (fr:=(0,0)) (Qb W5 _)) (by simp[Value.oneCell']) Oa (by unfold maxLen;omega) Oa (by simp;omega) (W5.heap.size+1) Od ?_;intro g6 cp6 W6 own6 grow6 k4 hlt6)
   have e6:Ex b W5 (W5.alloc (.cells #[.string ya.name,.int .i64 ya.npos,.int .i64 0] 100)):=(Ex.refl b W5).alloc _;have h6:=h5.alloc (.cells #[.string ya.name,.int .i64 ya.npos,.int .i64 0] 100);have ia6:=ia5.ex h5 e6;have ib6:=it5.ex h5 e6
   have rne:∀ k,Value.ownBlock (.slice (some ⟨gg,0,none⟩) (aO acc) cp)=some k->k≠b/\k≠g:=by
    intro k hk;rcases(own5.alloc (.cells #[.string ya.name,.int .i64 ya.npos,.int .i64 0] 100)).2 with⟨hx,_⟩|⟨g',cap',cur,hv,_,hh,_⟩
    ·cases hx
    ·simp only[Value.slice.injEq,Option.some.injEq,Addr.mk.injEq]at hv;obtain⟨⟨rfl,_,_⟩,_,_⟩:=hv;simp only[Value.ownBlock,Option.some.injEq]at hk;subst hk;refine⟨fun e1=>?_,fun e1=>?_⟩
     ·rw[e1,h6.blk]at hh;simp at hh
     ·obtain⟨cur2,j8,_⟩:=h6.row;rw[e1,j8]at hh;simp at hh
   have h7:RdW T g cap b (S (rc.skips T [18])).1 W6:=h6.move (grow6.block b h6.size (fun e1=>(rne b e1.symm).1 rfl)) (grow6.block g h6.gsize (fun e1=>(rne g e1.symm).2 rfl));have e7:Ex b w W6:=Ex.grown (ec5.alloc _) grow6 (fun k hk=>(own.lt k hk).1);have nig:dV gg acc:=z0 gg rfl;have y3:gg < W3.heap.size:=(own3.lt gg rfl).2;have h4:∀ i,i < (W5.alloc (.cells #[.string ya.name,.int .i64 ya.npos,.int .i64 0] 100)).heap.size->i≠gg->W6.heap[i]?=(W5.alloc (.cells #[.string ya.name,.int .i64 ya.npos,.int .i64 0] 100)).heap[i]?:=fun i hi j4=>grow6.block i hi (fun e1=>j4 (Oq e1));have ia7:New w.heap.size W6 acc:=ia6.but h4 nig;have nib:dV gg t5:=ib6.fresh.notIn y3;have ib7:New w.heap.size W6 t5:=(ib6.but h4 nib).mono ec3.size
   have nis:dV g6 (lD acc t5):=by
    rcases k4 with hx|hx
    ·simp only[Value.ownBlock,Option.some.injEq]at hx;subst hx;exact fH nig nib
    ·subst hx;have hs5:(W5.alloc (.cells #[.string ya.name,.int .i64 ya.npos,.int .i64 0] 100)).heap.size=W5.heap.size+1:=Od
     exact fH (ia6.out Oa) (ib6.out Oa)
   have fin:∃ (rc:Rd) (acc':Tr),W6.ownsRow w.heap.size 100 3 (.slice (some ⟨g6,0,none⟩) (aO acc+1) cp6) (aO acc') (cT acc')/\acc'≠ .nil/\bL acc'=100/\jZ 3 acc'/\New w.heap.size W6 acc'/\
    (∀ k,(Value.slice (some ⟨g6,0,none⟩) (aO acc+1) cp6).ownBlock=some k->dV k acc')/\RdW T g cap b rc W6/\Ex b w W6/\Dm T n qr rc/\T.length - rc.next<=m/\aO acc'<=rc.next+1/\
    app (er acc') (bEG T S m rc).2=cons (S r).2 (bEG T S n (S r).1).2/\(bEG T S m rc).1=(bEG T S n (S r).1).1:=by
    refine⟨_,lD acc t5,?_,uG _ _,?_,?_,New.snoc k5 ia7 ib7,?_,h7,e7,z2,?_,?_,?_,?_⟩
    ·rw[iN,jT,y6.out];exact own6
    ·rw[lZ y0];exact h8.out
    ·exact mY k5 (aD7 y1) (by rw[y6.out];rfl)
    ·intro k hk;simp only[Value.ownBlock,Option.some.injEq]at hk;subst hk;exact nis
    ·omega
    ·rw[iN];omega
    ·have h2:=HR.out
     have h3:bEG T S (m+1) rc=((bEG T S m (S (rc.skips T [18])).1).1,cons (S (rc.skips T [18])).2 (bEG T S m (S (rc.skips T [18])).1).2):=by
      show(if _ then _ else _)=_;rw[if_pos hs]
     rw[h3]at h2;rw[sE,pN,k6.out];exact h2
    ·have h2:=k7.out
     have h3:bEG T S (m+1) rc=((bEG T S m (S (rc.skips T [18])).1).1,cons (S (rc.skips T [18])).2 (bEG T S m (S (rc.skips T [18])).1).2):=by
      show(if _ then _ else _)=_;rw[if_pos hs]
     rw[h3]at h2;exact h2
   clear HR k7 HS HG HO HT HV HE HN k6 j9 y6 z5 h8 k4 ia7 ib7 nis nib nig ia6 ib6 ia5 ia3 ia2 it5 own6 own5 own3 own2 own h7 e7 h6 e6 k5 iac z0 hc ec y4 rne h4 grow6 z2 z3 a5 a3;go_wp2;go_roundg m
   case rel=>exact fin
   case measure=>omega
theorem aKY(T:List Tok)(g cap b:Nat)(r:Rd)(w:World)(h:RdW T g cap b r w):
 Calls Tryz.prog 125 #[.pointer (some ⟨b,0,none⟩)] w (jL T g cap b w (fQ T r) cB):=by
 have hends:=h.ends;have a1:=aP h.ends h.lt (show aQ [1] 0=false by decide);have a2:=a1.trans (aP h.ends a1.lt (show aQ [2] 0=false by decide));go_enter Tryz.func125,Tryz.ntmps125
 go_wp2_with fail
 refine(uM T g cap b r w h).mono ?_;rintro e W1 ⟨rfl,h1,e1⟩;generalize hq:cN T r [1]=q at*;have HQ:Hid (cN T r [1]=q):=hq;clear hq;unfold fV;have z2:(W1.alloc (.cells #[.string q.text,.int .i64 q.pos,.int .i64 0] 100)).heap[W1.heap.size]?=some (.cells #[.string q.text,.int .i64 q.pos,.int .i64 0] 100 (0,0)):=Qb W1 _;have s2:(W1.alloc (.cells #[.string q.text,.int .i64 q.pos,.int .i64 0] 100)).heap.size=W1.heap.size+1:=Od
 have k2:=bM (W1.alloc (.cells #[.string q.text,.int .i64 q.pos,.int .i64 0] 100)) [2] #[.int .i64 2] rfl;rw[s2]at k2;have h2:=(h1.alloc (.cells #[.string q.text,.int .i64 q.pos,.int .i64 0] 100)).alloc (.cells #[.int .i64 2] 141);have e2:=(e1.alloc (.cells #[.string q.text,.int .i64 q.pos,.int .i64 0] 100)).alloc (.cells #[.int .i64 2] 141)
 have n2:((W1.alloc (.cells #[.string q.text,.int .i64 q.pos,.int .i64 0] 100)).alloc (.cells #[.int .i64 2] 141)).heap[W1.heap.size]?=some (.cells #[.string q.text,.int .i64 q.pos,.int .i64 0] 100 (0,0)):=
  (On (by rw[s2];omega)).trans z2
 have h0:W1.heap.size≠b:=by have:=h1.size;omega
 go_wp2_with fail
 generalize (W1.alloc (.cells #[.string q.text,.int .i64 q.pos,.int .i64 0] 100)).alloc (.cells #[.int .i64 2] 141)=W2 at*;refine(fG T g cap b _ (W1.heap.size+1) 1 [2] W2 h2 k2 Ob Ob).mono ?_;rintro e W3 ⟨rfl,h3,e3⟩;have hv3:=aAL h2 [2];have n3:=(e3.block W1.heap.size (Oo n2) h0).trans n2;generalize hp:cN T (r.take T [1]) [2]=p at*;have HP:Hid (cN T (r.take T [1]) [2]=p):=hp;clear hp;rw[Tok.val_eq];have z4:(W3.alloc (.cells #[.int .i64 p.kind,.int .i64 p.pos,.string p.text,.int .i64 p.value] 143)).heap[W3.heap.size]?=some (.cells #[.int .i64 p.kind,.int .i64 p.pos,.string p.text,.int .i64 p.value] 143 (0,0)):=Qb W3 _;have s4:(W3.alloc (.cells #[.int .i64 p.kind,.int .i64 p.pos,.string p.text,.int .i64 p.value] 143)).heap.size=W3.heap.size+1:=Od
 have k4:=bM (W3.alloc (.cells #[.int .i64 p.kind,.int .i64 p.pos,.string p.text,.int .i64 p.value] 143)) [19] #[.int .i64 19] rfl;rw[s4]at k4;have l3:W1.heap.size < W3.heap.size:=(Oo n3);have h4:=(h3.alloc (.cells #[.int .i64 p.kind,.int .i64 p.pos,.string p.text,.int .i64 p.value] 143)).alloc (.cells #[.int .i64 19] 141);have e4:=((e2.trans e3).alloc (.cells #[.int .i64 p.kind,.int .i64 p.pos,.string p.text,.int .i64 p.value] 143)).alloc (.cells #[.int .i64 19] 141)
 have n4:((W3.alloc (.cells #[.int .i64 p.kind,.int .i64 p.pos,.string p.text,.int .i64 p.value] 143)).alloc (.cells #[.int .i64 19] 141)).heap[W1.heap.size]?=some (.cells #[.string q.text,.int .i64 q.pos,.int .i64 0] 100 (0,0)):=
  (On (by rw[s4];omega)).trans ((On l3).trans n3)
 have m4:((W3.alloc (.cells #[.int .i64 p.kind,.int .i64 p.pos,.string p.text,.int .i64 p.value] 143)).alloc (.cells #[.int .i64 19] 141)).heap[W3.heap.size]?=some (.cells #[.int .i64 p.kind,.int .i64 p.pos,.string p.text,.int .i64 p.value] 143 (0,0)):=
  (On (by rw[s4];omega)).trans z4
 have h6:W3.heap.size≠b:=by have:=h3.size;omega
 clear h1 e1 h2 e2 e3;go_wp2_with fail
 generalize (W3.alloc (.cells #[.int .i64 p.kind,.int .i64 p.pos,.string p.text,.int .i64 p.value] 143)).alloc (.cells #[.int .i64 19] 141)=W4 at*;refine(fG T g cap b _ (W3.heap.size+1) 1 [19] W4 h4 k4 Ob Ob).mono ?_;rintro e W5 ⟨rfl,h5,e5⟩;have n5:=(e5.block W1.heap.size (Oo n4) h0).trans n4;have m5:=(e5.block W3.heap.size (Oo m4) h6).trans m4;obtain⟨x0,x1,x2,_⟩:=bCM n5;obtain⟨y0,y1,y2,y3,_⟩:=dG m5;have ee:=e4.trans e5;clear n2 n3 n4 m4 z2 z4 k2 k4 h3 h4 e4 e5 n5 m5;go_wp2;go_ret;refine⟨.node W5.heap.size 0 {tag:=16,name:=q.text,npos:=q.pos,val:=p.value,pos:=p.pos} .nil .nil,rfl,?_,New.node (New.nil _ _) (New.nil _ _) (fun _=>ee.size) Od ?_,h5.alloc _,ee.alloc _⟩
 ·show mk _ .nil .nil=(fQ T r).2;unfold fQ;dsimp only;rw[HQ.out,HP.out]
 ·exact⟨_,Qb W5 _,⟨rfl,rfl,rfl⟩,rfl,rfl⟩
theorem aJF(T:List Tok)(g cap b n qr:Nat):uA T g cap b 185 (nK T) (Dm T n qr) aJR:=fun r w h _=>
 (uM T g cap b r w h).mono fun _ _ ⟨h1,h2,h3⟩=>⟨.node 0 0 {tag:=19,name:=(cN T r [1]).text,npos:=(cN T r [1]).pos} .nil .nil,h1,rfl,New.node (New.nil _ _) (New.nil _ _) (fun p=>absurd rfl p.2.2) Od trivial,h2,h3⟩
theorem tO{T:List Tok}(he:cY T):aZ T (nK T):=fun _ h=>aP he h Ob
theorem aMC{T:List Tok}:SoN (nK T):=fun _=>⟨_,_,_,rfl,Od,Od⟩
def aV(T:List Tok)(n:Nat):Pr:=fun r=>if aN T r [1]then fX T (nK T) n r else(r,.nil)
def dA(T:List Tok)(n:Nat):Pr:=fun r=>if aN T r [5]then fX T (uK T) n (r.skips T [5])else(r,.nil)
theorem mN(T:List Tok)(B:Pr)(n:Nat)(r:Rd):cZ T B n r=
 ((B (dA T n ((aV T n ((r.take T [1]).opened T [12])).1.shut T 13)).1).1,mk {tag:=17,name:=(cN T r [1]).text,npos:=(cN T r [1]).pos} (aV T n ((r.take T [1]).opened T [12])).2
  (mk {tag:=18} (dA T n ((aV T n ((r.take T [1]).opened T [12])).1.shut T 13)).2 (B (dA T n ((aV T n ((r.take T [1]).opened T [12])).1.shut T 13)).1).2)):=rfl
theorem bCX{T:List Tok}(he:cY T)(n:Nat):aZ T (aV T n):=fun r h=>by
 unfold aV
 split
 ·exact rY he (tO he) n r h
 ·exact Adv.refl h
theorem oM{T:List Tok}(he:cY T)(n:Nat):aZ T (dA T n):=fun r h=>by
 unfold dA
 split
 ·have a:=dU he h (show aQ [5] 0=false by decide);exact a.trans (rY he (uV he) n _ a.lt)
 ·exact Adv.refl h
theorem aMB{T:List Tok}:So 7 8 (uK T):=fun r=>⟨_,_,_,rfl,Od,Od⟩
theorem yG{T:List Tok}(S:Pr)(n:Nat):SoL (fX T S n):=fun _=> .inr ⟨_,_,rfl,rfl⟩
theorem jC{w:World}{k:Nat}{a0 a1 a2 a3 a4 a5 a6:Value}{t:TypeId}(h:w.heap[k]?=some (.cells #[a0,a1,a2,a3,a4,a5,a6] t (0,0))):
 w.cell? ⟨k,3,none⟩=some a3/\w.cell? ⟨k,4,none⟩=some a4/\w.cell? ⟨k,5,none⟩=some a5/\(∀ o,w.frozen? ⟨k,o,none⟩=false):=
 ⟨cell_of_row _ _ _ _ _ _ h,cell_of_row _ _ _ _ _ _ h,cell_of_row _ _ _ _ _ _ h,fun o=>by simp[World.frozen?,h]⟩
theorem aCB(T:List Tok)(g cap b n:Nat)(B:Pr)(r:Rd)(w:World)(hB:dI T g cap b 192 B (Dm T n 6))(j6:SoL B)(h:RdW T g cap b r w)(hd:Dm T n 6 r)(g1:r.nest+1+n<=1000000):
 Calls Tryz.prog 126 #[.pointer (some ⟨b,0,none⟩)] w (jL T g cap b w (cZ T B n r) cB):=by
 have HB:Hid (dI T g cap b 192 B (Dm T n 6)):=hB;have j1:Hid (SoL B):=j6;have hmf:∀ (fn:Fn) (first cap:Array Value) (w:World),(Instr.makeFunc fn first cap).run Tryz.prog w= .ok (.func fn first cap) w:=fun _ _ _ _=>rfl;have h0:=h.ends;have a1:=aP h.ends h.lt (show aQ [1] 0=false by decide);obtain⟨o1,o2,o3⟩:=dF h.ends a1.lt (show aQ [12] 0=false by decide);have j9:=a1.nest;have g0:=a1.ge;obtain⟨d1,d2,d3⟩:=hd;have j3:Dm T n 0 ((r.take T [1]).opened T [12]):=⟨Oa,Oa,Oa⟩;have ap:=bCX h0 n _ o2;have apn:=ap.nest;have asx:=lC h0 o1 o3 ap (show aQ [13] 0=false by decide);have asg:=asx.ge;have asn:=asx.nest
 have z7:∀ r',Adv T ((aV T n ((r.take T [1]).opened T [12])).1.shut T 13) r'->∀ q,q<=6->Dm T n q r':=fun r' a q hq=>by
  have x1:=a.ge;have x2:=a.nest;exact⟨Oa,Oa,Oa⟩
 have aw:=oM h0 n _ asx.lt;have j8:0<=(r.take T [1]).nest/\(r.take T [1]).nest<=1000000:=⟨Oa,Oa⟩;have j5:0<=(aV T n ((r.take T [1]).opened T [12])).1.nest/\(aV T n ((r.take T [1]).opened T [12])).1.nest<=1000000:=⟨Oa,Oa⟩;have HF:Hid (cZ T B n r=_):=mN T B n r;have z6:Hid (∀ r',Adv T ((aV T n ((r.take T [1]).opened T [12])).1.shut T 13) r'->∀ q,q<=6->Dm T n q r'):=z7;clear hB j6 z7 o1 o2 o3 d1 d2 d3 g1 j9 g0 apn asg asn;go_enter Tryz.func126,Tryz.ntmps126
 go_wp2_with fail
 refine(uM T g cap b r w h).mono ?_;rintro e W1 ⟨rfl,h1,e1⟩;generalize hq:cN T r [1]=q at*;have HQ:Hid (cN T r [1]=q):=hq;clear hq;unfold fV;have z2:(W1.alloc (.cells #[.string q.text,.int .i64 q.pos,.int .i64 0,.slice none 0 0,.slice none 0 0,.slice none 0 0,.int .i64 0] 105)).heap[W1.heap.size]?=some (.cells #[.string q.text,.int .i64 q.pos,.int .i64 0,.slice none 0 0,.slice none 0 0,.slice none 0 0,.int .i64 0] 105 (0,0)):=Qb W1 _;have s2:(W1.alloc (.cells #[.string q.text,.int .i64 q.pos,.int .i64 0,.slice none 0 0,.slice none 0 0,.slice none 0 0,.int .i64 0] 105)).heap.size=W1.heap.size+1:=Od
 have k2:=bM (W1.alloc (.cells #[.string q.text,.int .i64 q.pos,.int .i64 0,.slice none 0 0,.slice none 0 0,.slice none 0 0,.int .i64 0] 105)) [12] #[.int .i64 12] rfl;rw[s2]at k2;have h2:=(h1.alloc (.cells #[.string q.text,.int .i64 q.pos,.int .i64 0,.slice none 0 0,.slice none 0 0,.slice none 0 0,.int .i64 0] 105)).alloc (.cells #[.int .i64 12] 141);have e2:=(e1.alloc (.cells #[.string q.text,.int .i64 q.pos,.int .i64 0,.slice none 0 0,.slice none 0 0,.slice none 0 0,.int .i64 0] 105)).alloc (.cells #[.int .i64 12] 141)
 have n2:((W1.alloc (.cells #[.string q.text,.int .i64 q.pos,.int .i64 0,.slice none 0 0,.slice none 0 0,.slice none 0 0,.int .i64 0] 105)).alloc (.cells #[.int .i64 12] 141)).heap[W1.heap.size]?=some (.cells #[.string q.text,.int .i64 q.pos,.int .i64 0,.slice none 0 0,.slice none 0 0,.slice none 0 0,.int .i64 0] 105 (0,0)):=
  (On (by rw[s2];omega)).trans z2
 have k6:W1.heap.size≠b:=by have:=h1.size;omega
 have hH:w.heap.size<=W1.heap.size:=e1.size;go_wp2_with fail
 generalize (W1.alloc (.cells #[.string q.text,.int .i64 q.pos,.int .i64 0,.slice none 0 0,.slice none 0 0,.slice none 0 0,.int .i64 0] 105)).alloc (.cells #[.int .i64 12] 141)=W2 at*;refine(uL T g cap b _ (W1.heap.size+1) 1 [12] W2 h2 k2 Ob Ob j8).mono ?_;rintro e W3 ⟨rfl,h3,e3⟩;have n3:=(e3.block W1.heap.size (Oo n2) k6).trans n2;have l3:W1.heap.size < W3.heap.size:=(Oo n3);have k4:=bM W3 [1] #[.int .i64 1] rfl;have h4:=h3.alloc (.cells #[.int .i64 1] 141);have e4:=(e2.trans e3).alloc (.cells #[.int .i64 1] 141);have n4:(W3.alloc (.cells #[.int .i64 1] 141)).heap[W1.heap.size]?=some (.cells #[.string q.text,.int .i64 q.pos,.int .i64 0,.slice none 0 0,.slice none 0 0,.slice none 0 0,.int .i64 0] 105 (0,0)):=(On l3).trans n3;clear z2 s2 k2 h2 e2 n2 h3 e3 n3 l3;go_wp2_with fail
 refine(gB T g cap b _ W3.heap.size 1 [1] _ h4 k4 Ob).mono ?_;rintro e W5 ⟨rfl,nn,rfl⟩;have h5:=h4.drewN nn;have e5:=e4.drewN nn;have n5:((W3.alloc (.cells #[.int .i64 1] 141)).drewN nn).heap[W1.heap.size]?=some (.cells #[.string q.text,.int .i64 q.pos,.int .i64 0,.slice none 0 0,.slice none 0 0,.slice none 0 0,.int .i64 0] 105 (0,0)):=n4;have HP:Hid (aV T n ((r.take T [1]).opened T [12])=if aN T ((r.take T [1]).opened T [12]) [1]then fX T (nK T) n ((r.take T [1]).opened T [12])else((r.take T [1]).opened T [12],.nil)):=rfl;clear k4 h4 e4 n4 h1 e1;generalize (W3.alloc (.cells #[.int .i64 1] 141)).drewN nn=W5 at*;cases hs:aN T ((r.take T [1]).opened T [12]) [1]
 ·have z5:aV T n ((r.take T [1]).opened T [12])=((r.take T [1]).opened T [12],.nil):=by rw[HP.out,hs];rfl
  have h6:RdW T g cap b (aV T n ((r.take T [1]).opened T [12])).1 W5:=by rw[z5];exact h5
  obtain⟨tp,y1⟩:∃ tp:Tr,tp= .nil:=⟨_,rfl⟩;have itp:New w.heap.size W5 tp:=by rw[y1];exact New.nil _ _
  have otp:dV W1.heap.size tp:=by rw[y1];trivial
  obtain⟨ap',lp,cp',y2⟩:∃ ao n cp,bCH tp= .slice ao n cp/\(Value.slice ao n cp= .slice none 0 0):=⟨none,0,0,by rw[y1];rfl,rfl⟩;obtain⟨y2,y6⟩:=y2;have n6:W5.heap[W1.heap.size]?=some (.cells #[.string q.text,.int .i64 q.pos,.int .i64 0,.slice ap' lp cp',.slice none 0 0,.slice none 0 0,.int .i64 0] 105 (0,0)):=by rw[y6];exact n5
  replace y1:er tp=(aV T n ((r.take T [1]).opened T [12])).2:=by rw[y1,z5];rfl
  have e6:=e5;clear n5 e5 h5 z5 HP y6;have j0:Hid (er tp=(aV T n ((r.take T [1]).opened T [12])).2):=y1;have z9:Hid (bCH tp= .slice ap' lp cp'):=y2;clear y1 y2 hs;go_wp2_with fail
  refine(nC T g cap b _ 13 _ h6 Ob j5).mono ?_;rintro e W7 ⟨rfl,h7,e7⟩;have n7:=(e7.block W1.heap.size (Oo n6) k6).trans n6;have itp7:=itp.ex h6 e7;have l7:W1.heap.size < W7.heap.size:=(Oo n7);have k8:=bM W7 [5] #[.int .i64 5] rfl;have h8:=h7.alloc (.cells #[.int .i64 5] 141);have e8:=(Ex.refl b W7).alloc (.cells #[.int .i64 5] 141);have ee8:=(e6.trans e7).trans e8;have itp8:=itp7.ex h7 e8;have n8:=(e8.block W1.heap.size l7 k6).trans n7;clear h6 n6 e6 itp h7 n7 itp7 l7 e7 e8;go_wp2_with fail
  generalize W7.alloc (.cells #[.int .i64 5] 141)=W8 at*;refine(lL T g cap b _ W7.heap.size 1 [5] W8 h8 k8 Ob Ob).mono ?_;rintro e W9 ⟨rfl,h9,e9⟩;have n9:=(e9.block W1.heap.size (Oo n8) k6).trans n8;have itp9:=itp8.ex h8 e9;have ee9:=ee8.trans e9;have hW:Hid (dA T n ((aV T n ((r.take T [1]).opened T [12])).1.shut T 13)=if aN T ((aV T n ((r.take T [1]).opened T [12])).1.shut T 13) [5]then fX T (uK T) n (((aV T n ((r.take T [1]).opened T [12])).1.shut T 13).skips T [5])else((aV T n ((r.take T [1]).opened T [12])).1.shut T 13,.nil)):=rfl;clear h8 k8 n8 itp8 ee8 e9;cases hs5:aN T ((aV T n ((r.take T [1]).opened T [12])).1.shut T 13) [5]
  ·have k7:dA T n ((aV T n ((r.take T [1]).opened T [12])).1.shut T 13)=((aV T n ((r.take T [1]).opened T [12])).1.shut T 13,.nil):=by rw[hW.out,hs5];rfl
   have hA:RdW T g cap b (dA T n ((aV T n ((r.take T [1]).opened T [12])).1.shut T 13)).1 W9:=by
    have j2:((aV T n ((r.take T [1]).opened T [12])).1.shut T 13).skips T [5]=(aV T n ((r.take T [1]).opened T [12])).1.shut T 13:=by unfold Rd.skips;rw[hs5];rfl
    rw[j2]at h9;rw[k7];exact h9
   obtain⟨tw,k0⟩:∃ tw:Tr,tw= .nil:=⟨_,rfl⟩;have itw:New w.heap.size W9 tw:=by rw[k0];exact New.nil _ _
   have otw:dV W1.heap.size tw:=by rw[k0];trivial
   obtain⟨aw',lw,cw,k1⟩:∃ ao n cp,bCH tw= .slice ao n cp/\(Value.slice ao n cp= .slice none 0 0):=⟨none,0,0,by rw[k0];rfl,rfl⟩;obtain⟨k1,y6⟩:=k1;rw[<-y6]at n9;replace k0:er tw=(dA T n ((aV T n ((r.take T [1]).opened T [12])).1.shut T 13)).2:=by rw[k0,k7];rfl
   have nA:=n9;have itpA:=itp9;have eA:=ee9;clear n9 itp9 ee9 h9 k7 hW y6;have z4:Hid (er tw=(dA T n ((aV T n ((r.take T [1]).opened T [12])).1.shut T 13)).2):=k0;have z1:Hid (bCH tw= .slice aw' lw cw):=k1;clear k0 k1 hs5;go_wp2_with fail
   refine(HB.out _ _ hA (z6.out _ aw 6 Oa)).mono ?_;rintro e WB ⟨tb,rfl,k9,itb,y9,eB⟩;have y0:Hid (er tb=(B (dA T n ((aV T n ((r.take T [1]).opened T [12])).1.shut T 13)).1).2):=k9;obtain⟨ab,lb,cb,k3⟩:=iZ (t:=tb) (by rw[y0.out];exact j1.out _);have z3:Hid (bCH tb= .slice ab lb cb):=k3;rw[k3];clear k3 k9;have nB:=(eB.block W1.heap.size (Oo nA) k6).trans nA;obtain⟨_,_,y5,yf⟩:=jC nB;have yf5:=yf 5;have otb:=itb.fresh.notIn (Oo nA);have itpB:=itpA.ex hA eB;have itwB:=itw.ex hA eB;have ee:=eA.trans eB;have y8:=eA.size;clear hA eA eB itpA itw nA;go_wp2;go_ret;refine⟨.node W1.heap.size 0 {tag:=17,name:=q.text,npos:=q.pos} tp (.node 0 0 {tag:=18} tw tb),rfl,?_,New.node (itpB.set otp _ _) (New.node (itwB.set otw _ _) ((itb.mono y8).set otb _ _) (fun p=>absurd rfl p.2.1) Od trivial) (fun _=>hH) Od ?_,by rw[HF.out];exact y9.setNew nB Ob Ob _ _,ee.setNew hH _ _⟩
   ·rw[HF.out,<-j0.out,<-z4.out,<-y0.out];rfl
   ·exact⟨_,aM _ nB,⟨rfl,rfl,rfl⟩,by rw[z9.out];rfl,_,_,_,_,_,rfl,by rw[z1.out];rfl,by rw[z3.out];rfl,rfl⟩
  ·have k7:dA T n ((aV T n ((r.take T [1]).opened T [12])).1.shut T 13)=fX T (uK T) n (((aV T n ((r.take T [1]).opened T [12])).1.shut T 13).skips T [5]):=by rw[hW.out,hs5];rfl
   have z0:Hid (dA T n ((aV T n ((r.take T [1]).opened T [12])).1.shut T 13)=fX T (uK T) n (((aV T n ((r.take T [1]).opened T [12])).1.shut T 13).skips T [5])):=k7;clear k7 hW;have ask:=dU h0 asx.lt (show aQ [5] 0=false by decide);go_wp2_with fail
   refine(aB0 T g cap b 191 n 0 (uK T) _ W9 zU (fun r w h hd=>aHJ T g cap b n r w (aF6 T g cap b n) h hd) (uV h0) aMB h9 (z6.out _ ask 0 Oa)).mono ?_;rintro e WA0 ⟨tw,rfl,k5,itw0,z8,eA0⟩;have k0:er tw=(dA T n ((aV T n ((r.take T [1]).opened T [12])).1.shut T 13)).2:=by rw[z0.out];exact k5
   obtain⟨aw',lw,cw,k1⟩:=iZ (t:=tw) (by rw[k5];exact yG _ _ _);rw[k1];have nA0:=(eA0.block W1.heap.size (Oo n9) k6).trans n9;obtain⟨_,y4,_,yf⟩:=jC nA0;have yf4:=yf 4;have otw:=itw0.fresh.notIn (Oo n9);have itp10:=itp9.ex h9 eA0;have itpA:=itp10.set otp 4 (.slice aw' lw cw);have itw:=(itw0.mono ee9.size).set otw 4 (.slice aw' lw cw);have eA:=(ee9.trans eA0).setNew hH 4 (.slice aw' lw cw);have nA:=aM (o:=4) (.slice aw' lw cw) nA0
   have hA:RdW T g cap b (dA T n ((aV T n ((r.take T [1]).opened T [12])).1.shut T 13)).1 (WA0.setCell ⟨W1.heap.size,4,none⟩ (.slice aw' lw cw)):=by
    rw[z0.out];exact z8.setNew nA0 Ob Ob _ _
   replace nA:(WA0.setCell ⟨W1.heap.size,4,none⟩ (.slice aw' lw cw)).heap[W1.heap.size]?=some (.cells #[.string q.text,.int .i64 q.pos,.int .i64 0,.slice ap' lp cp',.slice aw' lw cw,.slice none 0 0,.int .i64 0] 105 (0,0)):=nA;clear k5 itw0 z8 eA0 n9 itp9 ee9 h9 itp10 z0 yf;have z4:Hid (er tw=(dA T n ((aV T n ((r.take T [1]).opened T [12])).1.shut T 13)).2):=k0;have z1:Hid (bCH tw= .slice aw' lw cw):=k1;clear k0 k1 hs5;go_wp2_with fail
   refine(HB.out _ _ hA (z6.out _ aw 6 Oa)).mono ?_;rintro e WB ⟨tb,rfl,k9,itb,y9,eB⟩;have y0:Hid (er tb=(B (dA T n ((aV T n ((r.take T [1]).opened T [12])).1.shut T 13)).1).2):=k9;obtain⟨ab,lb,cb,k3⟩:=iZ (t:=tb) (by rw[y0.out];exact j1.out _);have z3:Hid (bCH tb= .slice ab lb cb):=k3;rw[k3];clear k3 k9;have nB:=(eB.block W1.heap.size (Oo nA) k6).trans nA;obtain⟨_,_,y5,yf⟩:=jC nB;have yf5:=yf 5;have otb:=itb.fresh.notIn (Oo nA);have itpB:=itpA.ex hA eB;have itwB:=itw.ex hA eB;have ee:=eA.trans eB;have y8:=eA.size;clear hA eA eB itpA itw nA;go_wp2;go_ret;refine⟨.node W1.heap.size 0 {tag:=17,name:=q.text,npos:=q.pos} tp (.node 0 0 {tag:=18} tw tb),rfl,?_,New.node (itpB.set otp _ _) (New.node (itwB.set otw _ _) ((itb.mono y8).set otb _ _) (fun p=>absurd rfl p.2.1) Od trivial) (fun _=>hH) Od ?_,by rw[HF.out];exact y9.setNew nB Ob Ob _ _,ee.setNew hH _ _⟩
   ·rw[HF.out,<-j0.out,<-z4.out,<-y0.out];rfl
   ·exact⟨_,aM _ nB,⟨rfl,rfl,rfl⟩,by rw[z9.out];rfl,_,_,_,_,_,rfl,by rw[z1.out];rfl,by rw[z3.out];rfl,rfl⟩
 ·have z5:aV T n ((r.take T [1]).opened T [12])=fX T (nK T) n ((r.take T [1]).opened T [12]):=by rw[HP.out,hs];rfl
  have j4:Hid (aV T n ((r.take T [1]).opened T [12])=fX T (nK T) n ((r.take T [1]).opened T [12])):=z5;clear z5 HP;go_wp2_with fail
  refine(aK0 T g cap b 185 n 0 (nK T) _ W5 aEO (aJF T g cap b n 0) (tO h0) aMC h5 j3).mono ?_;rintro e W60 ⟨tp,rfl,y7,itp0,j7,e60⟩;have y1:er tp=(aV T n ((r.take T [1]).opened T [12])).2:=by rw[j4.out];exact y7
  obtain⟨ap',lp,cp',y2⟩:=iZ (t:=tp) (by rw[y7];exact yG _ _ _);rw[y2];have n60:=(e60.block W1.heap.size (Oo n5) k6).trans n5;obtain⟨y3,_,_,yf⟩:=jC n60;have yf3:=yf 3;have otp:=itp0.fresh.notIn (Oo n5);have itp:=(itp0.mono e5.size).set otp 3 (.slice ap' lp cp');have e6:=(e5.trans e60).setNew hH 3 (.slice ap' lp cp');have n6:(W60.setCell ⟨W1.heap.size,3,none⟩ (.slice ap' lp cp')).heap[W1.heap.size]?=some (.cells #[.string q.text,.int .i64 q.pos,.int .i64 0,.slice ap' lp cp',.slice none 0 0,.slice none 0 0,.int .i64 0] 105 (0,0)):=aM (o:=3) (.slice ap' lp cp') n60
  have h6:RdW T g cap b (aV T n ((r.take T [1]).opened T [12])).1 (W60.setCell ⟨W1.heap.size,3,none⟩ (.slice ap' lp cp')):=by
   rw[j4.out];exact j7.setNew n60 Ob Ob _ _
  clear y7 itp0 j7 e60 n5 e5 h5 n60 j4 yf;have j0:Hid (er tp=(aV T n ((r.take T [1]).opened T [12])).2):=y1;have z9:Hid (bCH tp= .slice ap' lp cp'):=y2;clear y1 y2 hs;go_wp2_with fail
  refine(nC T g cap b _ 13 _ h6 Ob j5).mono ?_;rintro e W7 ⟨rfl,h7,e7⟩;have n7:=(e7.block W1.heap.size (Oo n6) k6).trans n6;have itp7:=itp.ex h6 e7;have l7:W1.heap.size < W7.heap.size:=(Oo n7);have k8:=bM W7 [5] #[.int .i64 5] rfl;have h8:=h7.alloc (.cells #[.int .i64 5] 141);have e8:=(Ex.refl b W7).alloc (.cells #[.int .i64 5] 141);have ee8:=(e6.trans e7).trans e8;have itp8:=itp7.ex h7 e8;have n8:=(e8.block W1.heap.size l7 k6).trans n7;clear h6 n6 e6 itp h7 n7 itp7 l7 e7 e8;go_wp2_with fail
  generalize W7.alloc (.cells #[.int .i64 5] 141)=W8 at*;refine(lL T g cap b _ W7.heap.size 1 [5] W8 h8 k8 Ob Ob).mono ?_;rintro e W9 ⟨rfl,h9,e9⟩;have n9:=(e9.block W1.heap.size (Oo n8) k6).trans n8;have itp9:=itp8.ex h8 e9;have ee9:=ee8.trans e9;have hW:Hid (dA T n ((aV T n ((r.take T [1]).opened T [12])).1.shut T 13)=if aN T ((aV T n ((r.take T [1]).opened T [12])).1.shut T 13) [5]then fX T (uK T) n (((aV T n ((r.take T [1]).opened T [12])).1.shut T 13).skips T [5])else((aV T n ((r.take T [1]).opened T [12])).1.shut T 13,.nil)):=rfl;clear h8 k8 n8 itp8 ee8 e9;cases hs5:aN T ((aV T n ((r.take T [1]).opened T [12])).1.shut T 13) [5]
  ·have k7:dA T n ((aV T n ((r.take T [1]).opened T [12])).1.shut T 13)=((aV T n ((r.take T [1]).opened T [12])).1.shut T 13,.nil):=by rw[hW.out,hs5];rfl
   have hA:RdW T g cap b (dA T n ((aV T n ((r.take T [1]).opened T [12])).1.shut T 13)).1 W9:=by
    have j2:((aV T n ((r.take T [1]).opened T [12])).1.shut T 13).skips T [5]=(aV T n ((r.take T [1]).opened T [12])).1.shut T 13:=by unfold Rd.skips;rw[hs5];rfl
    rw[j2]at h9;rw[k7];exact h9
   obtain⟨tw,k0⟩:∃ tw:Tr,tw= .nil:=⟨_,rfl⟩;have itw:New w.heap.size W9 tw:=by rw[k0];exact New.nil _ _
   have otw:dV W1.heap.size tw:=by rw[k0];trivial
   obtain⟨aw',lw,cw,k1⟩:∃ ao n cp,bCH tw= .slice ao n cp/\(Value.slice ao n cp= .slice none 0 0):=⟨none,0,0,by rw[k0];rfl,rfl⟩;obtain⟨k1,y6⟩:=k1;rw[<-y6]at n9;replace k0:er tw=(dA T n ((aV T n ((r.take T [1]).opened T [12])).1.shut T 13)).2:=by rw[k0,k7];rfl
   have nA:=n9;have itpA:=itp9;have eA:=ee9;clear n9 itp9 ee9 h9 k7 hW y6;have z4:Hid (er tw=(dA T n ((aV T n ((r.take T [1]).opened T [12])).1.shut T 13)).2):=k0;have z1:Hid (bCH tw= .slice aw' lw cw):=k1;clear k0 k1 hs5;go_wp2_with fail
   refine(HB.out _ _ hA (z6.out _ aw 6 Oa)).mono ?_;rintro e WB ⟨tb,rfl,k9,itb,y9,eB⟩;have y0:Hid (er tb=(B (dA T n ((aV T n ((r.take T [1]).opened T [12])).1.shut T 13)).1).2):=k9;obtain⟨ab,lb,cb,k3⟩:=iZ (t:=tb) (by rw[y0.out];exact j1.out _);have z3:Hid (bCH tb= .slice ab lb cb):=k3;rw[k3];clear k3 k9;have nB:=(eB.block W1.heap.size (Oo nA) k6).trans nA;obtain⟨_,_,y5,yf⟩:=jC nB;have yf5:=yf 5;have otb:=itb.fresh.notIn (Oo nA);have itpB:=itpA.ex hA eB;have itwB:=itw.ex hA eB;have ee:=eA.trans eB;have y8:=eA.size;clear hA eA eB itpA itw nA;go_wp2;go_ret;refine⟨.node W1.heap.size 0 {tag:=17,name:=q.text,npos:=q.pos} tp (.node 0 0 {tag:=18} tw tb),rfl,?_,New.node (itpB.set otp _ _) (New.node (itwB.set otw _ _) ((itb.mono y8).set otb _ _) (fun p=>absurd rfl p.2.1) Od trivial) (fun _=>hH) Od ?_,by rw[HF.out];exact y9.setNew nB Ob Ob _ _,ee.setNew hH _ _⟩
   ·rw[HF.out,<-j0.out,<-z4.out,<-y0.out];rfl
   ·exact⟨_,aM _ nB,⟨rfl,rfl,rfl⟩,by rw[z9.out];rfl,_,_,_,_,_,rfl,by rw[z1.out];rfl,by rw[z3.out];rfl,rfl⟩
  ·have k7:dA T n ((aV T n ((r.take T [1]).opened T [12])).1.shut T 13)=fX T (uK T) n (((aV T n ((r.take T [1]).opened T [12])).1.shut T 13).skips T [5]):=by rw[hW.out,hs5];rfl
   have z0:Hid (dA T n ((aV T n ((r.take T [1]).opened T [12])).1.shut T 13)=fX T (uK T) n (((aV T n ((r.take T [1]).opened T [12])).1.shut T 13).skips T [5])):=k7;clear k7 hW;have ask:=dU h0 asx.lt (show aQ [5] 0=false by decide);go_wp2_with fail
   refine(aB0 T g cap b 191 n 0 (uK T) _ W9 zU (fun r w h hd=>aHJ T g cap b n r w (aF6 T g cap b n) h hd) (uV h0) aMB h9 (z6.out _ ask 0 Oa)).mono ?_;rintro e WA0 ⟨tw,rfl,k5,itw0,z8,eA0⟩;have k0:er tw=(dA T n ((aV T n ((r.take T [1]).opened T [12])).1.shut T 13)).2:=by rw[z0.out];exact k5
   obtain⟨aw',lw,cw,k1⟩:=iZ (t:=tw) (by rw[k5];exact yG _ _ _);rw[k1];have nA0:=(eA0.block W1.heap.size (Oo n9) k6).trans n9;obtain⟨_,y4,_,yf⟩:=jC nA0;have yf4:=yf 4;have otw:=itw0.fresh.notIn (Oo n9);have itp10:=itp9.ex h9 eA0;have itpA:=itp10.set otp 4 (.slice aw' lw cw);have itw:=(itw0.mono ee9.size).set otw 4 (.slice aw' lw cw);have eA:=(ee9.trans eA0).setNew hH 4 (.slice aw' lw cw);have nA:=aM (o:=4) (.slice aw' lw cw) nA0
   have hA:RdW T g cap b (dA T n ((aV T n ((r.take T [1]).opened T [12])).1.shut T 13)).1 (WA0.setCell ⟨W1.heap.size,4,none⟩ (.slice aw' lw cw)):=by
    rw[z0.out];exact z8.setNew nA0 Ob Ob _ _
   replace nA:(WA0.setCell ⟨W1.heap.size,4,none⟩ (.slice aw' lw cw)).heap[W1.heap.size]?=some (.cells #[.string q.text,.int .i64 q.pos,.int .i64 0,.slice ap' lp cp',.slice aw' lw cw,.slice none 0 0,.int .i64 0] 105 (0,0)):=nA;clear k5 itw0 z8 eA0 n9 itp9 ee9 h9 itp10 z0 yf;have z4:Hid (er tw=(dA T n ((aV T n ((r.take T [1]).opened T [12])).1.shut T 13)).2):=k0;have z1:Hid (bCH tw= .slice aw' lw cw):=k1;clear k0 k1 hs5;go_wp2_with fail
   refine(HB.out _ _ hA (z6.out _ aw 6 Oa)).mono ?_;rintro e WB ⟨tb,rfl,k9,itb,y9,eB⟩;have y0:Hid (er tb=(B (dA T n ((aV T n ((r.take T [1]).opened T [12])).1.shut T 13)).1).2):=k9;obtain⟨ab,lb,cb,k3⟩:=iZ (t:=tb) (by rw[y0.out];exact j1.out _);have z3:Hid (bCH tb= .slice ab lb cb):=k3;rw[k3];clear k3 k9;have nB:=(eB.block W1.heap.size (Oo nA) k6).trans nA;obtain⟨_,_,y5,yf⟩:=jC nB;have yf5:=yf 5;have otb:=itb.fresh.notIn (Oo nA);have itpB:=itpA.ex hA eB;have itwB:=itw.ex hA eB;have ee:=eA.trans eB;have y8:=eA.size;clear hA eA eB itpA itw nA;go_wp2;go_ret;refine⟨.node W1.heap.size 0 {tag:=17,name:=q.text,npos:=q.pos} tp (.node 0 0 {tag:=18} tw tb),rfl,?_,New.node (itpB.set otp _ _) (New.node (itwB.set otw _ _) ((itb.mono y8).set otb _ _) (fun p=>absurd rfl p.2.1) Od trivial) (fun _=>hH) Od ?_,by rw[HF.out];exact y9.setNew nB Ob Ob _ _,ee.setNew hH _ _⟩
   ·rw[HF.out,<-j0.out,<-z4.out,<-y0.out];rfl
   ·exact⟨_,aM _ nB,⟨rfl,rfl,rfl⟩,by rw[z9.out];rfl,_,_,_,_,_,rfl,by rw[z1.out];rfl,by rw[z3.out];rfl,rfl⟩
theorem Tryz.infoI:(Tryz.prog.info? 151).map (fun i=>(i.zero,i.size,i.bytes))=some (some .nilIface,1,16):=by kernel_rfl
theorem aTP{t:Tr}{a:Nd}{x y:Tr}(h:er t=mk a x y)(h1:16<=a.tag)(h2:a.tag < 18):cP t=[bCH t]/\bL (cons t .nil)=151/\∃ b o a l q,t= .node b o a l q/\(a.tag=19↔1=3):=by
 obtain⟨b,o,l,r,rfl,_,_⟩:=oI h;refine⟨?_,?_,b,o,a,l,r,rfl,⟨fun h=>Oa,fun h=>Oa⟩⟩
 ·show(if a.tag=19 then[Value.string a.name,.int .i64 a.npos,.int .i64 a.which]else if a.tag=7 then[cB (.node b o a l r)]else[bCH (.node b o a l r)])=_;rw[Oh,Oh]
 ·show(if a.tag=19 then _ else if a.tag=7 then _ else if a.tag < 7 then _ else if a.tag < 15 then _ else _)=_;rw[Oh,Oh,Oh,Oh]
def qW(v:Value):Array Value:=#[v,.slice none 0 0,.slice none 0 0,.int .i64 0,.slice none 0 0]
structure Prg(T:List Tok)(g cap b pb:Nat)(w0:World)(v:Value)(acc:Tr)(rc:Rd)(w:World):Prop where
 own:w.ownsRow w0.heap.size 151 1 v (aO acc) (cT acc)
 nil:acc= .nil->v= .slice none 0 0
 typ:acc≠ .nil->bL acc=151
 sized:jZ 1 acc
 new:New w0.heap.size w acc
 ni:∀ k,v.ownBlock=some k->dV k acc
 rd:RdW T g cap b rc w
 ex:Ex b w0 w
 blk:w.heap[pb]?=some (.cells (qW v) 111 (0,0))
 ge:w0.heap.size<=pb
 nip:dV pb acc
 len:aO acc<=rc.next
 nest:rc.nest=0
variable {T:List Tok} {g cap b pb:Nat} {w0 w w':World} {v:Value} {acc:Tr} {rc rc':Rd}
theorem Prg.ne(h:Prg T g cap b pb w0 v acc rc w):pb≠b:=by
 intro e;have h1:=h.blk;rw[e,h.rd.blk]at h1;simp at h1
theorem Prg.lt(h:Prg T g cap b pb w0 v acc rc w):pb < w.heap.size:=(Oo h.blk)
theorem Prg.cell(h:Prg T g cap b pb w0 v acc rc w):w.cell? ⟨pb,0,none⟩=some v:=cell_of_row _ _ _ _ _ _ h.blk
theorem Prg.froz(h:Prg T g cap b pb w0 v acc rc w):w.frozen? ⟨pb,0,none⟩=false:=by simp[World.frozen?,h.blk]
theorem Prg.own_ne(h:Prg T g cap b pb w0 v acc rc w){k:Nat}(hk:v.ownBlock=some k):k≠b/\k≠g/\k≠pb:=by
 rcases h.own.2 with⟨hx,_⟩|⟨g',cap',cur,hv,_,hh,_⟩
 ·rw[hx]at hk;simp[Value.ownBlock]at hk
 ·rw[hv]at hk;simp only[Value.ownBlock,Option.some.injEq]at hk;subst hk;refine⟨fun e1=>?_,fun e1=>?_,fun e1=>?_⟩
  ·rw[e1,h.rd.blk]at hh;simp at hh
  ·obtain⟨cur2,h0,_⟩:=h.rd.row;rw[e1,h0]at hh;simp at hh
  ·rw[e1,h.blk]at hh;simp at hh
theorem Prg.move(h:Prg T g cap b pb w0 v acc rc w)(e:Ex b w w')(hr:RdW T g cap b rc' w')(hl:rc.next<=rc'.next)(hn:rc'.nest=rc.nest):Prg T g cap b pb w0 v acc rc' w':=
 ⟨gC h.own h.rd.blk Ob e,h.nil,h.typ,h.sized,h.new.ex h.rd e,h.ni,hr,h.ex.trans e,(e.block pb h.lt h.ne).trans h.blk,h.ge,h.nip,Qd h.len hl,hn.trans h.nest⟩
theorem Prg.push(h:Prg T g cap b pb w0 v acc rc w){t5:Tr}{r5:Rd}{a:Nd}{x y:Tr}{W5 W6:World}{g6 cp6 u5:Nat}{p5:Addr}(ht:er t5= .node 0 0 a x y)(h1:16<=a.tag)(h2:a.tag < 18)(hv:bCH t5= .iface u5 (.pointer (some p5)))(it5:New w.heap.size W5 t5)(h5:RdW T g cap b r5 W5)(e5:Ex b w W5)(own6:W6.ownsRow w0.heap.size 151 1 (.slice (some ⟨g6,0,none⟩) (aO acc+1) cp6) (aO acc+1) (cT acc++[.iface u5 (.pointer (some p5))]))(grow6:(W5.alloc (.cells #[.iface u5 (.pointer (some p5))] 151)).grownBy W6 v.ownBlock)(h6:v.ownBlock=some g6\/g6=W5.heap.size+1)(hl:rc.next<=r5.next)(k2:aO acc+1<=r5.next)(hn:r5.nest=rc.nest):
 Prg T g cap b pb w0 (.slice (some ⟨g6,0,none⟩) (aO acc+1) cp6) (lD acc t5) r5 (W6.setCell ⟨pb,0,none⟩ (.slice (some ⟨g6,0,none⟩) (aO acc+1) cp6)):=by
 obtain⟨h4,h9,k1⟩:=aTP ht h1 h2;have P5:=h.move e5 h5 hl hn;have e6:=(Ex.refl b W5).alloc (.cells #[.iface u5 (.pointer (some p5))] 151);have P6:=P5.move e6 (h5.alloc _) Ol rfl;have ib6:=it5.ex h5 e6;have s5:(W5.alloc (.cells #[.iface u5 (.pointer (some p5))] 151)).heap.size=W5.heap.size+1:=Od
 generalize W5.alloc (.cells #[.iface u5 (.pointer (some p5))] 151)=W5' at*;have h0:∀ k,v.ownBlock≠some k->k < W5'.heap.size->W6.heap[k]?=W5'.heap[k]?:=fun k hk k3=>grow6.block k k3 (fun e=>hk e.symm);have n6:W6.heap[pb]?=some (.cells (qW v) 111 (0,0)):=(h0 pb (fun e=>(P6.own_ne e).2.2 rfl) P6.lt).trans P6.blk;have h7:RdW T g cap b r5 W6:=P6.rd.move (h0 b (fun e=>(P6.own_ne e).1 rfl) P6.rd.size) (h0 g (fun e=>(P6.own_ne e).2.1 rfl) P6.rd.gsize);have hw5:w.heap.size<=W5'.heap.size:=(e5.trans e6).size;have h3:∀ k,v.ownBlock=some k->k < w.heap.size:=fun k hk=>(h.own.lt k hk).2
 have ia7:New w0.heap.size W6 acc:=by
  cases hob:v.ownBlock with
  |none=>exact P6.new.but (k:=W5'.heap.size) (fun i hi _=>h0 i (by rw[hob];simp) hi) (P6.new.out Ol)
  |some k=>exact P6.new.but (k:=k) (fun i hi k0=>h0 i (fun e1=>k0 (Oq (e1.symm.trans hob))) hi) (P6.ni k hob)
 have ib7:New w0.heap.size W6 t5:=by
  refine New.mono ?_ h.ex.size;cases hob:v.ownBlock with
  |none=>exact ib6.but (k:=W5'.heap.size) (fun i hi _=>h0 i (by rw[hob];simp) hi) (ib6.out Ol)
  |some k=>exact ib6.but (k:=k) (fun i hi k0=>h0 i (fun e1=>k0 (Oq (e1.symm.trans hob))) hi) (ib6.fresh.notIn (h3 k hob))
 have nis:dV g6 (lD acc t5):=by
  rcases h6 with hx|hx
  ·exact fH (h.ni g6 hx) (ib6.fresh.notIn (h3 g6 hx))
  ·subst hx;exact fH (P6.new.out Oa) (ib6.out Oa)
 have nip:dV pb (lD acc t5):=fH h.nip (ib6.fresh.notIn h.lt)
 have k4:g6≠pb:=by
  rcases h6 with hx|hx
  ·exact(h.own_ne hx).2.2
  ·have:=h.lt;omega
 have i7:New w0.heap.size W6 (lD acc t5):=New.snoc h.sized ia7 ib7;refine⟨?_,fun hx=>absurd hx (uG _ _),fun _=>?_,mY h.sized k1 (by rw[h4];rfl),i7.set nip _ _,?_,h7.setNew n6 Ob Ob _ _,?_,?_,h.ge,nip,?_,hn.trans h.nest⟩
 ·rw[iN,jT,h4,hv];refine⟨own6.1,?_⟩;rcases own6.2 with⟨hx,_⟩|⟨g',cap',cur,h8,k5,hh,r⟩
  ·cases hx
  ·refine .inr ⟨g',cap',cur,h8,k5,?_,r⟩;simp only[Value.slice.injEq,Option.some.injEq,Addr.mk.injEq]at h8;obtain⟨⟨rfl,_,_⟩,_,_⟩:=h8;exact(Om k4).trans hh
 ·cases hac:acc with
  |nil=>show bL (cons t5 .nil)=_;exact h9
  |node b1 o1 a1 x1 q1=>rw[<-hac,lZ (by rw[hac];intro h;cases h)];exact h.typ (by rw[hac];intro h;cases h)
 ·intro k hk;simp only[Value.ownBlock,Option.some.injEq]at hk;subst hk;exact nis
 ·exact Ex.setNew (Ex.grown P6.ex grow6 (fun k hk=>(h.own.lt k hk).1)) h.ge _ _
 ·exact aM (o:=0) _ n6
 ·rw[iN];exact k2
end Go.Proofs.YtikffmloeifkpaaGreatDoor
