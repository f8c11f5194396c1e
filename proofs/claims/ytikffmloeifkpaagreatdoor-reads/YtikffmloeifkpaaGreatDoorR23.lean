/- Contracts. -/
import Derived.Test.YtikffmloeifkpaaGreatDoorR22
import Derived.Laws.CopyRow
import Derived.Laws.MakeOwn
namespace Go.Proofs.YtikffmloeifkpaaGreatDoor
open Go.RowKit Go.Lib Go.Deep Go.ChangeMaps Go.MapKept Tryz
theorem bWJ{P:Program}(w:World)(k u x f:TypeId)(g a n c d:Nat)(b:Array Value)(t:TypeId)(cs:List Value)(s:P.underlying k=some (.slice f))(z:(P.info? f).map (·.size)=some 2)(p:w.1[g]?=some (.cells b t (0,0)))(r:cs.length=n*2)(m:∀ j v,cs[j]?=some v->w.cell? ⟨a,j,none⟩=some v)(y:cs.length=b.size)(o:∀ v∈cs,v.oneCell'=true):
 (Builtin.copy_ #[k,u] x #[Qe g n d,Qe a n c]).run P w= .ok (goInt n) (w.setRow g cs.toArray):=by
 have q:=run_loadCells_list (P:=P) w ⟨a,0,none⟩ cs (fun j v h=>by
  have:(⟨a,0,none⟩:Addr).add j=⟨a,j,none⟩:=by unfold Addr.add;split<;>simp_all
  rw[this];exact m j v h)
 have l:=run_storeCells_at P g 0 t cs 0 b w p Oa o
 have e:(b.toList.take (0+0)++cs++b.toList.drop (0+0+cs.length)).toArray=cs.toArray:=by
  grind
 rw[e]at l;cases hq:P.info? f with
 |none=>grind
 |some i=>
  have hi:i.size=2:=Qg
  simp[Builtin.copy_,run_underlying s,Builtin.lenOf,Builtin.firstCells,sizeOf,typeInfo,hq,hi,<-r,q,l]
def rgC:List (Int × Int)->List Value
 |[]=>[]
 |r::R=> .int .i64 r.1:: .int .i64 r.2::rgC R
theorem bSW:∀ R:List (Int × Int),(rgC R).length=R.length*2
 |[]=>rfl
 |_::R=>by simp only[rgC,List.length_cons,bSW R];omega
theorem bQU:∀ (R:List (Int × Int)) (i:Nat) (r:Int × Int),R[i]?=some r->(rgC R)[i*2]?=some (Qc r.1)/\(rgC R)[i*2+1]?=some (Qc r.2)
 |r0::R,0,r,h=>by
  simp only[List.getElem?_cons_zero,Option.some.injEq]at h;subst h;trivial
 |r0::R,i+1,r,h=>by
  have h:=bQU R i r (by simpa using h)
  grind[rgC]
 |[],_,_,h=>by simp at h
theorem bYW(R:List (Int × Int)):∀ v∈rgC R,v.oneCell'=true:=by
 induction R with
 |nil=>trivial
 |cons r R ih=>
  intro v h;rcases List.mem_cons.1 h with rfl|h
  ·rfl
  rcases List.mem_cons.1 h with rfl|h
  ·rfl
  simp[*]
def StW(Z:Nat)(d:Bool)(g:Nat)(w:World):Prop:=∃ R:List (Int × Int),R.length=Z/\w.1[g]?=some (.cells (rgC R).toArray 232 (0,0))/\(d=false->∀ r∈R,Rk r)
abbrev stA(d:Bool)(g Z:Nat):Value:= .agg #[.bool d,Qe g Z Z]
theorem StW.lt{Z g:Nat}{d:Bool}{w:World}(h:StW Z d g w):g < w.1.size:=by
 obtain⟨_,_,h,_⟩:=h
 grind
theorem StW.move{Z g:Nat}{d:Bool}{w w':World}(h:StW Z d g w)(e:w'.1[g]?=w.1[g]?):StW Z d g w':=by
 obtain⟨R,a,b,c⟩:=h;exact⟨R,a,e.t b,c⟩
theorem StW.below{Z g:Nat}{d:Bool}{w w':World}(h:StW Z d g w)(a:Below w.1.size w w'):StW Z d g w':=h.move (a.block g h.lt)
theorem StW.get{Z g:Nat}{d:Bool}{w:World}(h:StW Z d g w){i:Nat}(hi:i < Z):∃ r:Int × Int,w.cell? ⟨g,i*2,none⟩=some (Qc r.1)/\w.cell? ⟨g,i*2+1,none⟩=some (Qc r.2)/\(d=false->Rk r):=by
 obtain⟨R,f,a,j⟩:=h;obtain⟨r,b⟩:∃ r,R[i]?=some r:=Qh;obtain⟨c,e⟩:=bQU R i r b;exact⟨r,by rw[cell_of_row _ _ _ _ _ _ a];simp[*],by rw[cell_of_row _ _ _ _ _ _ a];simp[*],Qg⟩
theorem infoRg:(prog.info? 232).map (fun i=>(i.zero,i.size,i.bytes))=some (some (.agg #[Qc 0,Qc 0]),2,16):=by kernel_rfl
def iC(Z:Nat)(d:Bool)(w:World):Ending->World->Prop:=fun e w'=>∃ g,e= .returned (stA d g Z)/\w.1.size<=g/\StW Z d g w'/\Below w.1.size w w'
set_option maxRecDepth 100000 in
set_option maxHeartbeats 4000000 in
theorem bPY(d:Bool)(g Z:Nat)(w:World)(h:StW Z d g w)(M:Z<=100000):Calls prog 233 #[stA d g Z] w (iC Z d w):=by
 have N:0<=(Z:Int)/\(Z:Int)<=100000:=Oa
 have L:∀ w:World,(Instr.makeSlice 228 (Qc (Z:Int)) (Qc (Z:Int))).run prog w= .ok (Qe w.1.size Z Z) (w.alloc (.cells (madeCells #[Qc 0,Qc 0] (Z*2)) 232)):=fun w=>by
  obtain⟨D,A,z,y,x⟩:=info_parts infoRg;have:=run_make (P:=prog) (w:=w) 228 232 D (.agg #[Qc 0,Qc 0]) underlying228 A z .i64 .i64 (Z:Int) (Z:Int) Oa (Int.le_refl _) (by rw[x];omega) Oa;rw[y]at this;simp only[Int.toNat_natCast]at this;exact this
 obtain⟨R,i,j,u⟩:=h;have B:=(Oo j);obtain⟨c,e⟩:∃ c,c=((w.alloc (Qf #[.bool d,Qe g Z Z] 230)).alloc (Qf #[.bool false,.slice none 0 0] 230)).alloc (.cells (madeCells #[Qc 0,Qc 0] (Z*2)) 232):=⟨_,rfl⟩
 have q:c.1[w.1.size+1]?=some (Qf #[.bool false,.slice none 0 0] 230):=by
  rw[e]
  repeat (first|rw[hal,if_neg (by simp only[hsz];omega)]|rw[hal,if_pos (by simp only[hsz])])
 have k:c.1[w.1.size+1+1]?=some (.cells (madeCells #[Qc 0,Qc 0] (Z*2)) 232 (0,0)):=by
  rw[e]
  repeat (first|rw[hal,if_neg (by simp only[hsz];omega)]|rw[hal,if_pos (by simp only[hsz])])
 have F:c.1.size=w.1.size+3:=by rw[e];simp only[hsz]
 have l:Below w.1.size w c:=by
  rw[e]
  repeat (first|exact Below.refl _ _|refine Below.alloc ?_ (by first|(simp;done)|(simp;omega)) _)
 have r:=(l.block g B).t j;have p:=bWJ (P:=prog) c 228 228 3 232 (w.1.size+1+1) g Z Z Z _ _ (rgC R) underlying228 (by kernel_rfl) k (by rw[bSW,i]) (fun O v C=>by rw[cell_of_row _ _ _ _ _ _ r];simpa using C) (by rw[bSW,i,size_madeCells]) (bYW R);obtain⟨a,b⟩:∃ a,a=c.setRow (w.1.size+1+1) (rgC R).toArray:=⟨_,rfl⟩;have E:goInt Z= Qc (Z:Int):=rfl;rw[<-b,E]at p
 have f:a.1[w.1.size+1]?=some (Qf #[.bool false,.slice none 0 0] 230):=by
  rw[b,setRow_other _ _ _ _ Oa];exact q
 have s:a.1[w.1.size]?=some (Qf #[.bool d,Qe g Z Z] 230):=by
  rw[b,setRow_other _ _ _ _ Oa,e]
  repeat (first|rw[hal,if_neg (by simp only[hsz];omega)]|rw[hal,if_pos rfl])
 have t:a.1[w.1.size+1+1]?=some (.cells (rgC R).toArray 232 (0,0)):=by
  rw[b];exact setRow_heap _ _ _ _ _ _ k
 have n:Below w.1.size w a:=l.t ⟨by rw[b];rfl,by rw[b];rfl,by rw[b];rfl,by rw[b];simp[World.setRow],fun Q K=>by rw[b];exact setRow_other _ _ _ _ Oa⟩;have m:Hid (a.1[w.1.size+1+1]?=some (.cells (rgC R).toArray 232 (0,0))/\Below w.1.size w a):=⟨t,n⟩;have G:a.cell? ⟨w.1.size,0,none⟩=some (.bool d):=Og s rfl
 have H:a.cell? ⟨w.1.size+1,0,none⟩=some (.bool false):=Og f rfl
 have I:a.cell? ⟨w.1.size+1,1,none⟩=some (.slice none 0 0):=Og f rfl
 have J:∀ o,a.frozen? ⟨w.1.size+1,o,none⟩=false:=fun o=>by simp[World.frozen?,f]
 rw[e]at p;clear e b q k F l r s f t n j;go_enter func233,ntmps233
 go_wp2;refine bodyPost_ret (v:=stA d (w.1.size+1+1) Z) (by simp[results,results233,go_sem,*]) rfl ⟨_,rfl,Oa,⟨R,i,?_,u⟩,(m.o.2.setCell Od _).setCell Od _⟩;exact(Om Od).t ((Om Od).t m.o.1)
end Go.Proofs.YtikffmloeifkpaaGreatDoor
