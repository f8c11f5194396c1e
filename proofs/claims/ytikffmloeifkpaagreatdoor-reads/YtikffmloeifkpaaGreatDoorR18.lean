/- Contracts. -/
import Derived.Test.YtikffmloeifkpaaGreatDoorR17
import Derived.Laws.CopyRow
import Derived.Laws.MakeOwn
namespace Go.Proofs.YtikffmloeifkpaaGreatDoor
open Go.RowKit Go.Lib Go.Deep Go.ChangeMaps Go.MapKept Tryz
theorem aOK{P:Program}(w:World)(k s Z f:TypeId)(g a n c d:Nat)(b:Array Value)(t:TypeId)(cs:List Value)(r:P.underlying k=some (.slice f))(x:(P.info? f).map (·.size)=some 2)(o:w.1[g]?=some (.cells b t (0,0)))(q:cs.length=n*2)(h0:∀ j v,cs[j]?=some v->w.cell? ⟨a,j,none⟩=some v)(u:cs.length=b.size)(m:∀ v∈cs,v.oneCell'=true):
 (Builtin.copy_ #[k,s] Z #[Qe g n d,Qe a n c]).run P w= .ok (goInt n) (w.setRow g cs.toArray):=by
 have p:=run_loadCells_list (P:=P) w ⟨a,0,none⟩ cs (fun j v h=>by
  have:(⟨a,0,none⟩:Addr).add j=⟨a,j,none⟩:=by unfold Addr.add;split<;>simp_all
  rw[this];exact h0 j v h)
 have l:=run_storeCells_at P g 0 t cs 0 b w o Oa m
 have e:(b.toList.take (0+0)++cs++b.toList.drop (0+0+cs.length)).toArray=cs.toArray:=by
  grind
 rw[e]at l;cases hq:P.info? f with
 |none=>grind
 |some i=>
  have hi:i.size=2:=Qg
  simp[Builtin.copy_,run_underlying r,Builtin.lenOf,Builtin.firstCells,sizeOf,typeInfo,hq,hi,<-q,p,l]
def qZ:List (Int × Int)->List Value
 |[]=>[]
 |r::R=> .int .i64 r.1:: .int .i64 r.2::qZ R
theorem aGJ:∀ R:List (Int × Int),(qZ R).length=R.length*2
 |[]=>rfl
 |_::R=>by simp only[qZ,List.length_cons,aGJ R];omega
theorem aC4:∀ (R:List (Int × Int)) (i:Nat) (r:Int × Int),R[i]?=some r->(qZ R)[i*2]?=some (Qc r.1)/\(qZ R)[i*2+1]?=some (Qc r.2)
 |r0::R,0,r,h=>by
  simp only[List.getElem?_cons_zero,Option.some.injEq]at h;subst h;trivial
 |r0::R,i+1,r,h=>by
  have h:=aC4 R i r (by simpa using h)
  grind[qZ]
 |[],_,_,h=>by simp at h
theorem aV2(R:List (Int × Int)):∀ v∈qZ R,v.oneCell'=true:=by
 induction R with
 |nil=>trivial
 |cons r R ih=>
  intro v h;rcases List.mem_cons.1 h with rfl|h
  ·rfl
  rcases List.mem_cons.1 h with rfl|h
  ·rfl
  simp[*]
def fG(Z:Nat)(d:Bool)(g:Nat)(w:World):Prop:=∃ R:List (Int × Int),R.length=Z/\w.1[g]?=some (.cells (qZ R).toArray 232 (0,0))/\(d=false->∀ r∈R,Rk r)
abbrev oH(d:Bool)(g Z:Nat):Value:= .agg #[.bool d,Qe g Z Z]
theorem fG.lt{Z g:Nat}{d:Bool}{w:World}(h:fG Z d g w):g < w.1.size:=by
 obtain⟨_,_,h,_⟩:=h
 grind
theorem fG.move{Z g:Nat}{d:Bool}{w w':World}(h:fG Z d g w)(e:w'.1[g]?=w.1[g]?):fG Z d g w':=by
 obtain⟨R,a,b,c⟩:=h;exact⟨R,a,e.t b,c⟩
theorem fG.below{Z g:Nat}{d:Bool}{w w':World}(h:fG Z d g w)(a:Below w.1.size w w'):fG Z d g w':=h.move (a.block g h.lt)
theorem fG.get{Z g:Nat}{d:Bool}{w:World}(h:fG Z d g w){i:Nat}(hi:i < Z):∃ r:Int × Int,w.cell? ⟨g,i*2,none⟩=some (Qc r.1)/\w.cell? ⟨g,i*2+1,none⟩=some (Qc r.2)/\(d=false->Rk r):=by
 obtain⟨R,f,a,j⟩:=h;obtain⟨r,b⟩:∃ r,R[i]?=some r:=Qh;obtain⟨c,e⟩:=aC4 R i r b;exact⟨r,by rw[cell_of_row _ _ _ _ _ _ a];simp[*],by rw[cell_of_row _ _ _ _ _ _ a];simp[*],Qg⟩
theorem infoRg:(prog.info? 232).map (fun i=>(i.zero,i.size,i.bytes))=some (some (.agg #[Qc 0,Qc 0]),2,16):=by kernel_rfl
def aZ1(Z:Nat)(d:Bool)(w:World):Ending->World->Prop:=fun e w'=>∃ g,e= .returned (oH d g Z)/\w.1.size<=g/\fG Z d g w'/\Below w.1.size w w'
set_option maxRecDepth 100000 in
set_option maxHeartbeats 4000000 in
theorem aA3(d:Bool)(g Z:Nat)(w:World)(h:fG Z d g w)(I:Z<=100000):Calls prog 233 #[oH d g Z] w (aZ1 Z d w):=by
 have J:0<=(Z:Int)/\(Z:Int)<=100000:=Oa
 have H:∀ w:World,(Instr.makeSlice 228 (Qc (Z:Int)) (Qc (Z:Int))).run prog w= .ok (Qe w.1.size Z Z) (w.alloc (.cells (madeCells #[Qc 0,Qc 0] (Z*2)) 232)):=fun w=>by
  obtain⟨i0,z,y,x,u⟩:=info_parts infoRg;have:=run_make (P:=prog) (w:=w) 228 232 i0 (.agg #[Qc 0,Qc 0]) underlying228 z y .i64 .i64 (Z:Int) (Z:Int) Oa (Int.le_refl _) (by rw[u];omega) Oa;rw[x]at this;simp only[Int.toNat_natCast]at this;exact this
 obtain⟨R,f,i,t⟩:=h;have A:=(Oo i);obtain⟨b,c⟩:∃ b,b=((w.alloc (Qf #[.bool d,Qe g Z Z] 230)).alloc (Qf #[.bool false,.slice none 0 0] 230)).alloc (.cells (madeCells #[Qc 0,Qc 0] (Z*2)) 232):=⟨_,rfl⟩
 have p:b.1[w.1.size+1]?=some (Qf #[.bool false,.slice none 0 0] 230):=by
  rw[c]
  repeat (first|rw[iM,if_neg (by simp only[cP];omega)]|rw[iM,if_pos (by simp only[cP])])
 have j:b.1[w.1.size+1+1]?=some (.cells (madeCells #[Qc 0,Qc 0] (Z*2)) 232 (0,0)):=by
  rw[c]
  repeat (first|rw[iM,if_neg (by simp only[cP];omega)]|rw[iM,if_pos (by simp only[cP])])
 have C:b.1.size=w.1.size+3:=by rw[c];simp only[cP]
 have k:Below w.1.size w b:=by
  rw[c]
  repeat (first|exact Below.refl _ _|refine Below.alloc ?_ (by first|(simp;done)|(simp;omega)) _)
 have q:=(k.block g A).t i;have n:=aOK (P:=prog) b 228 228 3 232 (w.1.size+1+1) g Z Z Z _ _ (qZ R) underlying228 (by kernel_rfl) j (by rw[aGJ,f]) (fun K v B=>by rw[cell_of_row _ _ _ _ _ _ q];simpa using B) (by rw[aGJ,f,size_madeCells]) (aV2 R);obtain⟨a,h0⟩:∃ a,a=b.setRow (w.1.size+1+1) (qZ R).toArray:=⟨_,rfl⟩;have k0:goInt Z= Qc (Z:Int):=rfl;rw[<-h0,k0]at n
 have e:a.1[w.1.size+1]?=some (Qf #[.bool false,.slice none 0 0] 230):=by
  rw[h0,setRow_other _ _ _ _ Oa];exact p
 have r:a.1[w.1.size]?=some (Qf #[.bool d,Qe g Z Z] 230):=by
  rw[h0,setRow_other _ _ _ _ Oa,c]
  repeat (first|rw[iM,if_neg (by simp only[cP];omega)]|rw[iM,if_pos rfl])
 have s:a.1[w.1.size+1+1]?=some (.cells (qZ R).toArray 232 (0,0)):=by
  rw[h0];exact setRow_heap _ _ _ _ _ _ j
 have m:Below w.1.size w a:=k.t ⟨by rw[h0];rfl,by rw[h0];rfl,by rw[h0];rfl,by rw[h0];simp[World.setRow],fun L G=>by rw[h0];exact setRow_other _ _ _ _ Oa⟩;have l:Hid (a.1[w.1.size+1+1]?=some (.cells (qZ R).toArray 232 (0,0))/\Below w.1.size w a):=⟨s,m⟩;have D:a.cell? ⟨w.1.size,0,none⟩=some (.bool d):=Og r rfl
 have E:a.cell? ⟨w.1.size+1,0,none⟩=some (.bool false):=Og e rfl
 have F:a.cell? ⟨w.1.size+1,1,none⟩=some (.slice none 0 0):=Og e rfl
 have f1:∀ o,a.frozen? ⟨w.1.size+1,o,none⟩=false:=fun o=>by simp[World.frozen?,e]
 rw[c]at n;clear c h0 p j C k q r e s m i;go_enter func233,ntmps233
 go_wp2;refine bodyPost_ret (v:=oH d (w.1.size+1+1) Z) (by simp[results,results233,go_sem, *]) rfl ⟨_,rfl,Oa,⟨R,f,?_,t⟩,(l.o.2.setCell Od _).setCell Od _⟩;exact(Om Od).t ((Om Od).t l.o.1)
end Go.Proofs.YtikffmloeifkpaaGreatDoor
