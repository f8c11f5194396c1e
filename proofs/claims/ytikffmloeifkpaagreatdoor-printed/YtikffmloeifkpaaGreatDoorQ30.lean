/- Contracts. -/
import Derived.Test.YtikffmloeifkpaaGreatDoorQ29
import Derived.Test.YtikffmloeifkpaaGreatDoorQ24
import Derived.Test.YtikffmloeifkpaaGreatDoorQ10
set_option maxHeartbeats 8000000
set_option maxRecDepth 100000
namespace Go.Proofs.YtikffmloeifkpaaGreatDoor
open Go.RowKit Go.Lib Go.Deep
def P10(w:World):Prop:=Lib.TabIs Tryz.prog w "internal/strconv.uint64pow10" .u64 Lib.pow10Tab
theorem P10.alloc{w:World}(h:P10 w)(o:Obj):P10 (w.alloc o):=tabIs_alloc h o
theorem bHK(w:World)(k:Nat)(os:Array Obj):Below w.heap.size w (Go.Sort.grow (w.drewN k) os):=by
 refine⟨rfl,rfl,rfl,?_,fun j hj=>?_⟩
 ·show w.heap.size<=(w.heap++os).size;rw[Array.size_append];omega
 ·show(w.heap++os)[j]?=w.heap[j]?;rw[Array.getElem?_append_left hj]
theorem bGH{t:Tok}(ht:bEY t)(w:World)(hT:Tab w)(hP:P10 w):Calls Tryz.prog 85 #[.agg #[.int .i64 t.kind,.int .i64 t.pos,.string t.text,.int .i64 t.value]] w fun e w'=>e= .returned (.string ⟨(spC t).toArray⟩)/\Below w.heap.size w w':=by
 have h0:=aBP hT;obtain⟨oW,h1⟩:∃ o:Obj,o= .cells #[.int .i64 t.kind,.int .i64 t.pos,.string t.text,.int .i64 t.value] 143:=⟨_,rfl⟩
 have kW:(w.alloc oW).heap[w.heap.size]?=some (.cells #[.int .i64 t.kind,.int .i64 t.pos,.string t.text,.int .i64 t.value] 143 (0,0)):=by
  rw[h1];exact Qb w _
 have bW:Below w.heap.size w (w.alloc oW):=(Below.refl _ _).alloc Ol _;have HT:Hid (Tab (w.alloc oW)):=hT.below bW h0;have HP:Hid (P10 (w.alloc oW)):=hP.alloc oW;have HB:Hid (Below w.heap.size w (w.alloc oW)):=bW;obtain⟨c0,c1,c2,c3,_⟩:=dP kW;clear hT hP bW kW;rcases ht with⟨hk,hv,L,hL,h2,hr,hs⟩|⟨hk,h2,u,hu,hv⟩|⟨k,h3,h33,hk,h2,hv⟩
 ·have h4:Hid (t.text=⟨(spC t).toArray⟩):=by rw[Hid];unfold spC;rw[if_pos hk]
  rw[hk]at h1 c0 ⊢;clear hk hv h2 hr hs hL;go_enter Tryz.func85,Tryz.ntmps85
  go_upto_region 1 with fail
  rw[<-h1];clear h1;generalize w.alloc oW=W1 at*;go_wp2;go_ret;exact⟨by rw[<-h4.out];rfl,HB.out⟩
 ·have h4:Hid (spC t=Lib.itoa t.value):=by rw[Hid];unfold spC;rw[Oh,if_pos hk]
  have h6:=Tryz.strconv_FormatInt_10 t.value Oa Oa (w.alloc oW) HP.out;rw[hk]at h1 c0 ⊢;clear hk h2 hv hu;go_enter Tryz.func85,Tryz.ntmps85
  go_upto_region 1 with fail
  rw[<-h1];clear h1;generalize w.alloc oW=W1 at*;go_wp2_with fail
  refine h6.mono ?_;rintro e W2 ⟨rfl,n,os,h5⟩;have h7:Below W1.heap.size W1 W2:=by rw[h5];exact bHK _ _ _
  have h8:Hid (Below w.heap.size w W2):=HB.out.trans (h7.mono HB.out.size);clear h5 h7 h6;go_wp2;go_ret;exact⟨by rw[h4.out];rfl,h8.out⟩
 ·have h4:Hid (spC t=spL k):=by rw[Hid];unfold spC;rw[Oh,Oh,hk,Int.toNat_natCast]
  have ck:=HT.out k Oa;have hk1:((k:Int)==1)=false:=by simp;omega
  have hk2:((k:Int)==2)=false:=by simp;omega
  have hkI:0<=(k:Int)/\(k:Int) < 34:=Oa
  rw[hk]at h1 c0 ⊢;clear hk h2 hv;go_enter Tryz.func85,Tryz.ntmps85
  go_upto_region 1 with fail
  rw[<-h1];clear h1;generalize w.alloc oW=W1 at*;go_wp2;go_ret;exact⟨by rw[h4.out];rfl,HB.out⟩
theorem bF4(a b:Tok):∀ l:List Tok,bEM (l++[a,b])=bEM (l++[a])++(spC a++[bET a.kind b.kind])
 |[]=>by show spC a++bET a.kind b.kind::bEM [b]=[]++(spC a++[bET a.kind b.kind]);rfl
 |[x]=>by
  show spC x++bET x.kind a.kind::bEM ([]++[a,b])=(spC x++bET x.kind a.kind::bEM [a])++_;rw[bF4 a b []];show _=(spC x++bET x.kind a.kind::[])++_;simp[bEM]
 |x::y::l=>by
  show spC x++bET x.kind y.kind::bEM (y::l++[a,b])=(spC x++bET x.kind y.kind::bEM (y::l++[a]))++_;rw[bF4 a b (y::l)];simp
theorem bG0{T:List Tok}{i:Nat}(h:i+1 < T.length):bEM (T.take (i+2))=bEM (T.take (i+1))++(spC T[i]++[bET T[i].kind T[i+1].kind]):=by
 have e1:T.take (i+1)=T.take i++[T[i]]:=by rw[List.take_succ_eq_append_getElem Oa]
 have e3:T.take (i+1+1)=T.take (i+1)++[T[i+1]]:=by rw[List.take_succ_eq_append_getElem Oa]
 have e2:T.take (i+2)=T.take i++[T[i],T[i+1]]:=by
  rw[e1,List.append_assoc]at e3;exact e3
 rw[e1,e2,bF4]
theorem bI6{T:List Tok}{g cap:Nat}{w:World}(h:aGY T g cap w){i:Nat}(hi:i < T.length)(j:Nat)(hj:j < 4):w.cell? ⟨g,i*4+j,none⟩=(T[i]).cells[j]?:=by
 obtain⟨cur,hc,h0⟩:=h.row;have h1:=aF0 T i T[i] (List.getElem?_eq_getElem hi) j hj;rw[<-h0,List.getElem?_take,if_pos Oa]at h1;rw[cell_of_row _ _ _ _ _ _ hc,<-h1];simp
theorem P10.below{w w':World}(h:P10 w)(hb:Below w.heap.size w w'):P10 w':=by
 obtain⟨g,hg⟩:∃ g,Tryz.prog.globalNamed "internal/strconv.uint64pow10"=some g:=Option.isSome_iff_exists.1 (by kernel_rfl);unfold P10 Lib.TabIs World.var? at*;rw[hg]at h ⊢;simp only[Option.bind_some]at h ⊢
 have h0:g < w.heap.size:=by
  rcases Qk g w.heap.size with h1|h1
  ·exact h1
  ·rw[Array.getElem?_eq_none h1]at h;cases h
 rw[hb.block g h0];exact h
theorem bF0{B b:Nat}{bs:List Value}{w w':World}(h:Lib.IsBuilder 177 5 B b bs w)(hw:∀ i,i < w.heap.size->w'.heap[i]?=w.heap[i]?):Lib.IsBuilder 177 5 B b bs w':=by
 have key:∀ p,Lib.BuilderAt 177 5 B b p bs w->Lib.BuilderAt 177 5 B b p bs w':=by
  rintro p ⟨h1,v,h2,h3,h4⟩;refine⟨h1,v,(hw b (Oo h2)).trans h2,⟨h3.1,?_⟩,h4⟩;rcases h3.2 with h5|⟨g,cap,cur,q1,q2,q3⟩
  ·exact .inl h5
  ·obtain⟨q3,q4⟩:=q3;exact .inr ⟨g,cap,cur,q1,q2,(hw g (Oo q3)).trans q3,q4⟩
 rcases h with h|h
 ·exact .inl (key _ h)
 ·exact .inr (key _ h)
theorem bJ2{T:List Tok}{g cap:Nat}(w:World)(h:aGY T g cap w)(hT:Tab w)(hP:P10 w)(hw:∀ i (hi:i+1 < T.length),bEY T[i])(hz:∀ i,(bEM (T.take (i+1))).length<=50000000)(hg:g < w.heap.size):
 Calls Tryz.prog 49 #[.slice (some ⟨g,0,none⟩) T.length cap] w fun e w'=>e= .returned (.string ⟨(bEM T).toArray⟩)/\Below w.heap.size w w':=by
 have h0:=aBP hT;have hfew:=h.few;have y1:=h.pos;obtain⟨oB,y3⟩:∃ o:Obj,o= .cells #[.pointer none,.slice none 0 0] 177:=⟨_,rfl⟩
 have kB:(w.alloc oB).heap[w.heap.size]?=some (.cells #[.pointer none,.slice none 0 0] 177 (0,0)):=by
  rw[y3];exact Qb w _
 have bB:Below w.heap.size w (w.alloc oB):=(Below.refl _ _).alloc Ol _;have y6:Lib.IsBuilder 177 5 w.heap.size w.heap.size (Lib.byteCells []) (w.alloc oB):= .inl ⟨Qc _,.slice none 0 0,kB,⟨Od,.inl ⟨rfl,rfl⟩⟩,by simp[Value.ownBlock]⟩;have HH:Hid (aGY T g cap w):=h;have HT:Hid (Tab w):=hT;have HP:Hid (P10 w):=hP;have hlen:(T.length:Int)<=5000:=Oa
 have hl1:0<=(T.length:Int) - 1/\(T.length:Int) - 1<=(T.length:Int)/\(T.length:Int)<=(cap:Int):=by have:=h.cap_;omega
 go_enter Tryz.func49,Tryz.ntmps49
 go_upto_region 2 with fail
 rw[<-y3];clear y3;generalize w.alloc oB=W1 at*;go_wp2_with fail
 go_loopg [4,5,12] T.length (fun m x y v wr=>∃ i:Nat,v= .int .i64 i/\i+1<=T.length/\T.length<=i+1+m/\Lib.IsBuilder 177 5 w.heap.size w.heap.size (Lib.byteCells (bEM (T.take (i+1)))) wr/\Below w.heap.size w wr)
 case atStart=>exact⟨0,rfl,Oa,Oa,by(cases T with|nil=>simp at y1|cons a l=>exact y6),bB⟩
 case round=>
  obtain⟨i,rfl,j1,z3,k7,h4⟩:=hrel;have hBlt:w.heap.size < wr.heap.size:=by rcases k7 with h|h<;>exact h.lt
  by_cases h7:i+1 < T.length
  ·have h6:(i:Int) < (T.length:Int) - 1:=Oa
   have hi:i < T.length:=Oa
   have nxt:∀ k,k < w.heap.size->wr.heap[k]?=w.heap[k]?:=fun k hk=>h4.block k hk;have cl:∀ (q:Nat) (hq:q < T.length) (j:Nat),j < 4->wr.cell? ⟨g,q*4+j,none⟩=(T[q]).cells[j]?:=fun q hq j hj=>(Qf (nxt g hg)).trans (bI6 HH.out hq j hj);have k0:wr.cell? ⟨g,i*4,none⟩=some (.int .i64 (T[i]).kind):=cl i hi 0 Oa;have k1:wr.cell? ⟨g,i*4+1,none⟩=some (.int .i64 (T[i]).pos):=cl i hi 1 Oa;have k2:wr.cell? ⟨g,i*4+2,none⟩=some (.string (T[i]).text):=cl i hi 2 Oa;have k3:wr.cell? ⟨g,i*4+3,none⟩=some (.int .i64 (T[i]).value):=cl i hi 3 Oa;have j2:0<=(i:Int)/\(i:Int) < (T.length:Int) - 1:=Oa
   obtain⟨oW,y2⟩:∃ o:Obj,o= .cells #[.int .i64 (T[i]).kind,.int .i64 (T[i]).pos,.string (T[i]).text,.int .i64 (T[i]).value] 143:=⟨_,rfl⟩
   have kW:(wr.alloc oW).heap[wr.heap.size]?=some (.cells #[.int .i64 (T[i]).kind,.int .i64 (T[i]).pos,.string (T[i]).text,.int .i64 (T[i]).value] 143 (0,0)):=by
    rw[y2];exact Qb wr _
   have k4:wr.cell? ⟨g,(i+1)*4,none⟩=some (.int .i64 (T[i+1]).kind):=cl (i+1) h7 0 Oa;have z6:Hid _:=k4;have z8:Hid _:=k7;have h5:Hid (Below w.heap.size w wr):=h4;have y7:Hid _:=kW;have HZ:Hid _:=hz;have HW:Hid (bEY T[i]):=hw i h7;clear cl nxt k7 h4 kW hz hw k4 kB y6 bB h hT hP;go_upto_region 5 with fail
   rw[<-y2];clear y2 k0 k1 k2 k3;have n2:∀ k,k < wr.heap.size->(wr.alloc oW).heap[k]?=wr.heap[k]?:=fun k hk=>On hk;have B2:Below w.heap.size w (wr.alloc oW):=h5.out.alloc h5.out.size _;have z2:=bGH HW.out (wr.alloc oW) (HT.out.below B2 h0) (HP.out.below B2);have y0:Hid _:=bF0 z8.out n2;have j0:Hid _:=B2;obtain⟨c0,c1,c2,c3,_⟩:=dP y7.out;have hs2:w.heap.size<=wr.heap.size:=h5.out.size;have z4:(wr.alloc oW).cell? ⟨g,(i+1)*4,none⟩=some (.int .i64 (T[i+1]).kind):=(Qf (n2 g Oa)).trans z6.out;have k9:Hid _:=z4;have hsz2:(wr.alloc oW).heap.size=wr.heap.size+1:=Od
   clear n2 B2 z4 z8 h5 z6;generalize wr.alloc oW=W2 at*;go_wp2_with fail
   refine z2.mono ?_;rintro e W3 ⟨rfl,b3⟩;have hl3:=b3.size
   have hln:(bEM (T.take (i+1))).length+(spC T[i]).length+1<=50000000:=by
    have h1:=HZ.out (i+1);have h2:=congrArg List.length (bG0 h7);rw[List.length_append,List.length_append]at h2;have h3:[bET T[i].kind T[i+1].kind].length=1:=rfl;rw[h3]at h2;rw[show i+1+1=i+2 from rfl]at h1;omega
   have y9:=bFT w.heap.size w.heap.size _ ⟨(spC T[i]).toArray⟩ W3 (bF0 y0.out (fun k hk=>b3.block k hk)) (by
    rw[Lib.byteCells_length];show(bEM (T.take (i+1))).length+(spC T[i]).toArray.size<=_;rw[List.size_toArray];omega) Oa
   have h9:W3.cell? ⟨g,(i+1)*4,none⟩=some (.int .i64 (T[i+1]).kind):=(Qf (b3.block g Oa)).trans k9.out;have kW3:=(b3.block wr.heap.size Oa).trans y7.out;have z9:Hid (Below w.heap.size w W3):=j0.out.trans (b3.mono Oa);have z7:Hid _:=kW3;have k8:Hid _:=h9;have l3w:wr.heap.size < W3.heap.size:=Oa
   clear kW3 h9 b3 z2 c0 c1 c2 c3;go_wp2_with fail
   refine y9.mono ?_;rintro e W4 ⟨rfl,k6,b4,kb4⟩;have hl4:=b4.size;have kW4:=kb4 _ _ _ _ Ob Oa z7.out;have h8:W4.cell? ⟨g,(i+1)*4,none⟩=some (.int .i64 (T[i+1]).kind):=(Qf (b4.block g Oa)).trans k8.out;have B4:Below w.heap.size w W4:=z9.out.trans b4
   have z0:∀ w',w'.heap=W4.heap->Calls Tryz.prog 86 #[.pointer (some ⟨w.heap.size,0,none⟩),.int .u8 ((bET (T[i]).kind (T[i+1]).kind).toNat:Int)] w' fun e w2=>e= .returned .nilIface/\Lib.BuilderAt 177 5 w.heap.size w.heap.size (.pointer (some ⟨w.heap.size,0,none⟩)) (Lib.byteCells (bEM (T.take (i+1)))++Lib.strCells ⟨(spC T[i]).toArray⟩++[Value.int .u8 ((bET (T[i]).kind (T[i+1]).kind).toNat:Int)]) w2/\Below w.heap.size w' w2:=fun w' hh=>(bG9 w.heap.size w.heap.size _ _ w' (bF0 (.inr k6) (fun k hk=>by rw[hh])) (by
    rw[List.length_append,Lib.byteCells_length,Lib.strCells_length];show _+(spC T[i]).toArray.size+1<=_;rw[List.size_toArray];omega) (by rw[hh];omega)).mono fun e w2 h=>⟨h.1,h.2.1,h.2.2.1⟩
   have z5:Hid (Lib.byteCells (bEM (T.take (i+1)))++Lib.strCells ⟨(spC T[i]).toArray⟩++[Value.int .u8 ((bET (T[i]).kind (T[i+1]).kind).toNat:Int)]=Lib.byteCells (bEM (T.take (i+2)))):=by
    rw[Hid,bG0 h7,Lib.byteCells_append,Lib.byteCells_append,List.append_assoc];rfl
   have j7:Hid (Below w.heap.size w W4):=B4;obtain⟨c0,c1,c2,c3,_⟩:=dP kW4;have j4:Hid _:=z5;clear kb4 kW4 b4 B4 y9 k6 z7 k8 z9 y0 j0 y7 k9 c1 c2 c3 z5;obtain⟨gg,rfl⟩:∃ q,gk=q+1:=⟨gk - 1,Oa⟩;obtain⟨kj,y4⟩:∃ kj:Nat,kj=i+1:=⟨_,rfl⟩;have hks:(i:Int)+1=(kj:Int):=Oa
   have hkI:0<=(kj:Int)/\(kj:Int) < (T.length:Int):=Oa
   have hwk:IntKind.i64.wrap (kj:Int)=(kj:Int):=IntWalk.i64_in _ Oa;have hk45:W4.cell? ⟨g,kj*4,none⟩=some (.int .i64 (T[i+1]).kind):=by rw[y4];exact h8
   clear h8;have y8:Hid (kj=i+1/\i+1 < T.length/\T.length<=i+1+(gg+1)):=⟨y4,h7,z3⟩;clear y4 j2 h6 j1 z3;go_upto_region 6 with fail
   go_region_with (first
    |(go_at_call 86;refine(z0 W4.drew rfl).mono ?_;rintro e W5 ⟨rfl,k5,b5⟩)
    |(go_at_call 87;refine(bJF _ _ _).mono ?_;rintro e Wa ⟨rfl,rfl⟩))
   all_goals
    have j6:Hid (Below w.heap.size w W5):=j7.out.drew.trans b5;have j3:Hid _:=k5;clear b5 k5 z0;go_wp2_with fail
    go_roundg gg
    case rel=>exact⟨kj,rfl,Oi y8.out,Oi y8.out,.inr (by rw[y8.out.1,<-j4.out];exact j3.out),j6.out⟩
    case measure=>omega
  ·have h6: ¬(i:Int) < (T.length:Int) - 1:=Oa
   have z1:=Tryz.Builder_String_any w.heap.size w.heap.size (bEM (T.take (i+1))) wr k7 h4.size;have y5:Hid (bEM (T.take (i+1))=bEM T):=by rw[Hid,List.take_of_length_le Oa]
   have h5:Hid (Below w.heap.size w wr):=h4;clear k7 h4 kB y6 bB hz hw;go_wp2_with fail
   refine z1.mono ?_;rintro e W9 ⟨rfl,b9⟩;have j5:Hid (Below w.heap.size w W9):=h5.out.trans b9;clear z1 b9;go_wp2;go_ret;exact⟨by rw[<-y5.out];rfl,j5.out⟩
end Go.Proofs.YtikffmloeifkpaaGreatDoor
