/- Contracts. -/
import Derived.Test.YtikffmloeifkpaaGreatDoorQ27
import Derived.Test.YtikffmloeifkpaaGreatDoorQ28
set_option maxHeartbeats 2000000
set_option maxRecDepth 100000
namespace Go.Proofs.YtikffmloeifkpaaGreatDoor
open Go.RowKit Go.Lib Go.Deep
theorem bI0:(Tryz.prog.info? 177).map (·.size)=some 2:=by kernel_rfl
theorem bJH:liesAt Tryz.prog Tryz.prog.depth 177 (2 / Tryz.prog.cellsOf 177) 0 177 1=true:=by kernel_rfl
theorem bI1:(Tryz.prog.info? 5).map (fun i=>(i.zero,i.size,i.bytes))=some (some (.int .u8 0),1,1):=by kernel_rfl
theorem bG5(b:Nat)(w:World)(h0:w.cell? ⟨b,0,none⟩=some (.pointer (some ⟨b,0,none⟩))):Calls Tryz.prog 137 #[.pointer (some ⟨b,0,none⟩)] w fun e w'=>e= .returned (.tuple #[])/\w'=w:=by
 obtain⟨j,hj,_⟩:=Option.map_eq_some_iff.1 bI0;go_enter Tryz.func137,Tryz.ntmps137
 go_wp2;rw[Lib.run_neq_ptr_same w _ Tryz.underlying175 hj];go_wp2;go_end0
 exact⟨rfl,rfl⟩
theorem bFU(b:Nat)(w:World)(h0:w.cell? ⟨b,0,none⟩=some (.pointer none))(h1:w.shape? b=some (177,2))(hfz:w.frozen? ⟨b,0,none⟩=false):Calls Tryz.prog 137 #[.pointer (some ⟨b,0,none⟩)] w fun e w'=>e= .returned (.tuple #[])/\w'=w.setCell ⟨b,0,none⟩ (.pointer (some ⟨b,0,none⟩)):=by
 obtain⟨j,hj,h2⟩:=Option.map_eq_some_iff.1 bI0;go_enter Tryz.func137,Tryz.ntmps137
 go_wp2;rw[Lib.run_to_unsafe w ⟨b,0,none⟩ Tryz.underlying175 Tryz.underlying356 hj (by rw[h2];decide) h1 (Nat.zero_lt_succ 1)];simp only[Result.andThen];rw[Oper.upon_value];go_wp2;rw[run_callFunc_extern Tryz.func208 (by kernel_rfl) (by kernel_rfl) (by kernel_rfl) (e:=Extern.AbiNoEscape.same) (by kernel_rfl)];rw[Lib.run_noEscape];simp only[Result.andThen];rw[Oper.upon_value];go_wp2;rw[Lib.run_from_unsafe w ⟨b,0,none⟩ Tryz.underlying356 Tryz.underlying175 hj h1 bJH];simp only[Result.andThen];rw[Oper.upon_value];go_wp2;go_end0
 exact⟨rfl,rfl⟩
def bHO(b:Nat)(w w':World):Prop:=∀ (k:Nat) (cs:Array Value) (T:TypeId) (fr:Nat × Nat),T≠5->k≠b->w.heap[k]?=some (.cells cs T fr)->w'.heap[k]?=some (.cells cs T fr)
theorem bFD(B b:Nat)(bs:List Value)(w:World)(h:Lib.IsBuilder 177 5 B b bs w):Calls Tryz.prog 137 #[.pointer (some ⟨b,0,none⟩)] w fun e w'=>e= .returned (.tuple #[])/\(Lib.BuilderAt 177 5 B b (.pointer (some ⟨b,0,none⟩)) bs w'/\Below B w w'/\bHO b w w'):=by
 rcases h with h|h
 ·refine(bFU b w h.cell0 h.shape h.frozen0).mono ?_;rintro e w' ⟨rfl,rfl⟩;exact⟨rfl,h.used _,(Below.refl B w).setCell (p:=⟨b,0,none⟩) h.1 _,fun k cs T fr _ hk hc=>(Om hk).trans hc⟩
 ·refine(bG5 b w h.cell0).mono ?_;rintro e w' ⟨rfl,rfl⟩;exact⟨rfl,h,Below.refl B _,fun k cs T fr _ _ hc=>hc⟩
theorem bG9(B b:Nat)(bs:List Value)(c:Int)(w:World)(h:Lib.IsBuilder 177 5 B b bs w)(hlen:bs.length+1<=100000000)(hBw:B<=w.heap.size):
 Calls Tryz.prog 86 #[.pointer (some ⟨b,0,none⟩),.int .u8 c] w fun e w'=>e= .returned .nilIface/\(Lib.BuilderAt 177 5 B b (.pointer (some ⟨b,0,none⟩)) (bs++[.int .u8 c]) w'/\Below B w w'/\bHO b w w'):=by
 obtain⟨i0,hi,k1,k0,h9⟩:=info_parts bI1;have h8:=bFD B b bs w h;go_enter Tryz.func86,Tryz.ntmps86
 go_wp2_with fail
 refine h8.mono ?_;rintro e w1 ⟨rfl,h1,h7,k4⟩;obtain⟨hB,v,h5,h4,k2⟩:=h1;have c0:w1.cell? ⟨b,0,none⟩=some (.pointer (some ⟨b,0,none⟩)):=by rw[Lib.cell_of_heap h5];rfl
 have c1:w1.cell? ⟨b,1,none⟩=some v:=by rw[Lib.cell_of_heap h5];rfl
 clear h8;go_wp2_with (at_builtin;refine wpList_append_own _ rfl _ _ 65 rfl B 5 i0 (.int .u8 0) 1 1 Tryz.underlying65 hi k1 k0 h9 rfl Ob _ _ _ rfl (h4.alloc _) ⟨w1.heap.size,0,none⟩ 1 1 [.int .u8 c] rfl rfl ?c1 ?c2 ?c3 ?c4 ?c5 ?_)
 case c1=>
  intro j u hj
  match j,hj with
  |0,hj=>simp at hj;subst hj;simp[Addr.add]
 case c2=>intro u hu;simp at hu;subst hu;rfl
 case c3=>unfold maxLen;omega
 case c4=>omega
 case c5=>have:=h7.size;simp;omega
 intro v' w2 h3 h2 _
 have k3:b < w1.heap.size:=by
  rcases Qk b w1.heap.size with h'|h'
  ·exact h'
  ·simp[Array.getElem?_eq_none h']at h5
 have h6:w2.heap[b]?=some (.cells #[.pointer (some ⟨b,0,none⟩),v] 177 (0,0)):=by
  rw[h2.block b (by simp;omega) (fun e=>k2 e.symm),Lib.alloc_old w1 _ b k3];exact h5
 have d0:w2.cell? ⟨b,0,none⟩=some (.pointer (some ⟨b,0,none⟩)):=by rw[Lib.cell_of_heap h6];rfl
 have d1:w2.cell? ⟨b,1,none⟩=some v:=by rw[Lib.cell_of_heap h6];rfl
 have f1:w2.frozen? ⟨b,1,none⟩=false:=Lib.frozen_of_heap h6 1
 obtain⟨g,cap,rfl⟩:∃ g cap,v'= .slice (some ⟨g,0,none⟩) (bs.length+1) cap:=by
  rcases h3.2 with⟨_,h0⟩|⟨g,cap,cur,hv,_⟩
  ·omega
  ·exact⟨g,cap,hv⟩
 go_wp2;go_ret;refine⟨rfl,?_,?_,fun k cs T fr hT hk hc=>?_⟩
 ·exact Lib.BuilderAt.put (T:=177) (e:=5) hB h6 (bs':=bs++[.int .u8 c]) (by simpa using h3) Ob
 ·exact((h7.alloc (Oi h7.size) _).grown h2 (by have:=h7.size;simp;omega) (fun k hk=>(h4.lt k hk).1)).setCell (p:=⟨b,1,none⟩) hB _
 ·have h1:=k4 k cs T fr hT hk hc;have hl:=(Oo h1);exact(Om hk).trans ((h2.block k (by simp;omega) (fun e=>Lib.ownBlock_ne h4 h1 hT e.symm)).trans ((Lib.alloc_old w1 _ k hl).trans h1))
theorem bFT(B b:Nat)(bs:List Value)(s:ByteArray)(w:World)(h:Lib.IsBuilder 177 5 B b bs w)(hlen:bs.length+s.size<=100000000)(hBw:B<=w.heap.size):
 Calls Tryz.prog 84 #[.pointer (some ⟨b,0,none⟩),.string s] w fun e w'=>e= .returned (.tuple #[.int .i64 s.size,.nilIface])/\(Lib.BuilderAt 177 5 B b (.pointer (some ⟨b,0,none⟩)) (bs++Lib.strCells s) w'/\Below B w w'/\bHO b w w'):=by
 obtain⟨i0,hi,k0,h9,h8⟩:=info_parts bI1;have h7:=bFD B b bs w h;go_enter Tryz.func84,Tryz.ntmps84
 go_wp2_with fail
 refine h7.mono ?_;rintro e w1 ⟨rfl,h1,h6,k3⟩;obtain⟨hB,v,h4,h3,k1⟩:=h1;have c0:w1.cell? ⟨b,0,none⟩=some (.pointer (some ⟨b,0,none⟩)):=by rw[Lib.cell_of_heap h4];rfl
 have c1:w1.cell? ⟨b,1,none⟩=some v:=by rw[Lib.cell_of_heap h4];rfl
 clear h7;go_wp2_with (at_builtin;refine Lib.wpList_append_own_string _ rfl _ _ 65 9 rfl B 5 i0 Tryz.underlying65 Tryz.underlying9 hi k0 h9 h8 _ _ _ rfl h3 s rfl ?c3 ?c4 ?c5 ?_)
 case c3=>unfold maxLen;omega
 case c4=>omega
 case c5=>have:=h6.size;omega
 intro v' w2 h2 h0 _
 have k2:b < w1.heap.size:=by
  rcases Qk b w1.heap.size with h'|h'
  ·exact h'
  ·simp[Array.getElem?_eq_none h']at h4
 have h5:w2.heap[b]?=some (.cells #[.pointer (some ⟨b,0,none⟩),v] 177 (0,0)):=by
  rw[h0.block b k2 (fun e=>k1 e.symm)];exact h4
 have d0:w2.cell? ⟨b,0,none⟩=some (.pointer (some ⟨b,0,none⟩)):=by rw[Lib.cell_of_heap h5];rfl
 have d1:w2.cell? ⟨b,1,none⟩=some v:=by rw[Lib.cell_of_heap h5];rfl
 have f1:w2.frozen? ⟨b,1,none⟩=false:=Lib.frozen_of_heap h5 1
 obtain⟨ao,n',cap,rfl⟩:∃ ao n' cap,v'= .slice ao n' cap:=by
  rcases h2.2 with⟨hv,_⟩|⟨g,cap,cur,hv,_⟩
  ·exact⟨_,_,_,hv⟩
  ·exact⟨_,_,_,hv⟩
 go_wp2;go_ret2
 refine⟨rfl,?_,?_,fun k cs T fr hT hk hc=>?_⟩
 ·exact Lib.BuilderAt.put (T:=177) (e:=5) hB h5 (bs':=bs++Lib.strCells s) (by simpa[Lib.strCells_length]using h2) Ob
 ·exact(h6.grown h0 (Oi h6.size) (fun k hk=>(h3.lt k hk).1)).setCell (p:=⟨b,1,none⟩) hB _
 ·have h1:=k3 k cs T fr hT hk hc;have hl:=(Oo h1);exact(Om hk).trans ((h0.block k hl (fun e=>Lib.ownBlock_ne h3 h1 hT e.symm)).trans h1)
end Go.Proofs.YtikffmloeifkpaaGreatDoor
