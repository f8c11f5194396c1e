/- Contracts. -/
import Derived.Test.YtikffmloeifkpaaGreatDoorQ25
import Derived.Test.YtikffmloeifkpaaGreatDoorZLpr
import Derived.Test.YtikffmloeifkpaaGreatDoorZCgprinted
namespace Go.Proofs.YtikffmloeifkpaaGreatDoor.printed
open Go.ChangeShapes Go.WideShapes Go.ChangeAt Go.RowKit Go.ChangeMaps
theorem bFN{x:String × DataW Unit}{r:List (String × DataW Unit)}{w:World}(h:laidMet Tryz.prog (x::r) w):laidMet Tryz.prog r w:=by
 obtain⟨ps,⟨g,t,cs,f,p,q,h1,h2,h3,h4,h5,rfl⟩,hn,hc⟩:=h;exact⟨q,h5,(List.nodup_append.1 hn).2.1,fun b off hm=>hc b off (List.mem_append_right _ hm)⟩
theorem bFE{w:World}(h:laidMetH Tryz.prog Rows.printedRow.laid w):Tab w/\P10 w:=by
 rw[MakeChecks.laidMetH_plain _ _ _ (by kernel_rfl)]at h;have h2:laidMet Tryz.prog (("internal/strconv.uint64pow10",Lib.tabData .u64 Lib.pow10Tab)::[("surefoot/words.spellings",Rows.laid_surefoot_words_spellings)]) w:=bFN (bFN h);refine⟨aDB ?_,Lib.tabIs_of_head (g:=1) (t:=464) (e:=426) (n:=20) (by kernel_rfl) (by kernel_rfl) Tryz.underlying464 (by kernel_rfl) (by kernel_rfl) (by kernel_rfl) h2⟩;rw[MakeChecks.laidMetH_plain _ _ _ (by kernel_rfl)];exact bFN h2
def bK5(d:DataW Unit):Array Value:=match d with
 | .agg xs=>(xs.map fun| .lit (.int k z)=>Value.int k z|_=>Value.bool false).toArray
 |_=>#[]
def bGN(w:World):World:=
 let put (d:DataW Unit):Obj->Obj:=fun
  | .cells _ t frozen=> .cells (bK5 d) t frozen
  |o=>o
 {bD7 w with heap:=(((bD7 w).heap.modify 1 (put Rows.laid_internal_strconv_uint64pow10)).modify 2 (put Rows.laid_math_bits_deBruijn32tab)).modify 3 (put Rows.laid_math_bits_deBruijn64tab)}
theorem aR7:Tryz.prog.cellsOf 2=1:=by kernel_rfl
theorem aTN{n:Int}(h:(Lit.int .i64 n).wf=true):-9223372036854775808<=n/\n<=9223372036854775807:=bounds_i64 h
set_option maxRecDepth 100000 in
theorem aOF(H:Type)(enc:TypeId × Value->H)(W:World)(base:Nat)(args:Array Value)(ds gs:List (DataW H))(before:List MemPlace)(h3:∀ (j:Nat) t v,Tryz.f10.params[j]?=some t->args[j]?=some v->Value.okWide Tryz.prog W .any base t v)(hW:DataW.Whole enc Tryz.prog Tryz.f10.params.toList Rows.printedSpec.vars false W args.toList ds gs before)(hL:laidMetH Tryz.prog Rows.printedRow.laid W):
 Calls Tryz.prog 10 args W fun e W'=>∃ v,e= .returned v/\Rows.printedSpec.post enc Tryz.prog Tryz.f10 false true false false W args v W':=by
 have h7:=hW;obtain⟨p,q,h8,hV,rfl,hfz,hnd⟩:=hW;have hA:DataW.TrodAll enc Tryz.prog W 0 (fun _=>true) true Tryz.f10.params.toList args.toList ds p:=h8;rw[Tryz.params10]at hA h3;obtain⟨v0,vs0,d0,ds0,p0,q0,hargs,rfl,rfl,h0,r0⟩:=trodAll_cons hA;obtain⟨v1,vs1,d1,ds1,p1,q1,rfl,rfl,rfl,h1,r1⟩:=trodAll_cons r0;obtain⟨v2,vs2,d2,ds2,p2,q2,rfl,rfl,rfl,h2,r2⟩:=trodAll_cons r1;obtain⟨rfl,rfl,rfl⟩:=trodAll_nil r2;obtain rfl:args=#[v0,v1,v2]:=by cases args;simp_all
 obtain⟨rfl,rfl⟩:=trodVars_none hV;obtain⟨s,rfl,rfl,rfl,ws⟩:=open_string Tryz.underlying9 (h3 0 9 v0 rfl rfl) h0;obtain⟨a2,rfl,rfl,rfl,w2⟩:=open_int Tryz.underlying3 (h3 2 3 v2 rfl rfl) h2;obtain⟨ad,len,cap,rfl⟩:=okWide_slice Tryz.underlying30 (h3 1 30 v1 rfl rfl);have k3:=h1;obtain⟨fuel1,k2⟩:=h1;clear h8;simp only[List.append_nil,List.nil_append]at h7;have k0:∀ x∈p1,x.block < W.heap.size:=fun x hx=>by simpa using h7.lt x hx
 have h4:∃ xs:List Int,xK W (.slice ad len cap) xs/\I6 xs:=by
  rcases open_ints Tryz.underlying30 Tryz.underlying2 aR7 k2 with⟨h5,_⟩|⟨a,l,c,zs,h5,_,hlc,_,hz,_,h6,h9⟩
  ·simp[Value.cells]at h5;obtain⟨rfl,rfl,rfl⟩:=h5;exact⟨[],⟨none,0,rfl,fun h=>absurd h Od⟩,fun _ h=>by cases h⟩
  ·simp[Value.cells]at h5;obtain⟨rfl,rfl,rfl⟩:=h5
   have hl:(zs.take len).length=len:=by
    rw[List.length_take,hz]
    split<;>omega
   refine⟨zs.take len,⟨some a,cap,by rw[hl],fun _=>⟨a,rfl,fun j v hj=>?_⟩⟩,fun n hn=>aTN (h9 n (List.mem_of_mem_take hn))⟩;rw[List.getElem?_map]at hj;cases hq:(zs.take len)[j]? with
   |none=>rw[hq]at hj;cases hj
   |some n=>
    rw[hq]at hj;simp only[Option.map_some,Option.some.injEq]at hj
    have k1:j < zs.length:=by
     have:=(List.getElem?_eq_some_iff.1 hq).1;rw[List.length_take]at this;omega
    have hn:zs.getD j 0=n:=by
     rw[List.getElem?_take]at hq
     split at hq
     ·rw[List.getD_eq_getElem?_getD,hq];rfl
     ·cases hq
    rw[h6 j k1,hn,hj]
 obtain⟨xs,h4,hi6⟩:=h4;refine(bHD s _ xs a2 W (bFE hL).1 (bFE hL).2 ws h4 (aTN w2)).mono fun e W' ⟨he,hb⟩=>?_;subst he;refine⟨_,rfl,_,_,_,[],[]++(p1++([]++[])),[],h7,?_,?_,rfl,hb.frame _,fun h=>by cases h⟩
 ·exact trodAll_cons_mk (shut_bool Tryz.underlying4 _) trodAll_mk0
 ·exact trodAll_cons_mk (shut_string Tryz.underlying9 ws) (trodAll_cons_mk (aDF (by kernel_rfl) (of_decide_eq_true (by kernel_rfl)) k3 hb k0) (trodAll_cons_mk (shut_int Tryz.underlying3 w2) trodAll_mk0))
theorem aNL(os:Os):laidMet Tryz.prog Rows.printedRow.laid ((bGN (World.holding Tryz.prog os ⟨#[],#[],[]⟩)).forCall (fun _ _=>0) ⟨#[],#[.string ⟨#[]⟩,.slice none 0 0,.int .i64 0],[]⟩).memory:=
 laidMet_of_run' 8 (by kernel_rfl) (by kernel_rfl)
theorem aTU(os:Os){H:Type}(enc:TypeId × Value->H):∃ places,DataW.whole enc Tryz.prog ((bGN (World.holding Tryz.prog os ⟨#[],#[],[]⟩)).forCall (fun _ _=>0) ⟨#[],#[.string ⟨#[]⟩,.slice none 0 0,.int .i64 0],[]⟩).memory Tryz.f10.params.toList Rows.printedSpec.vars false #[Value.string ⟨#[]⟩,.slice none 0 0,.int .i64 0].toList 8=some ([.lit (.string []),.nil,.lit (.int .i64 0)],[],places):=
 ⟨[],by kernel_rfl⟩
set_option maxRecDepth 100000 in
theorem lifted(os:Os)(started:os.Started)(H:Type)(enc:TypeId × Value->H)(F:Stop.Interp):
 ReturnsInHanded {} Tryz.checked os 10 .any ((OpenSpec.ofChange Rows.printedSpec).preRow enc Tryz.prog Tryz.f10 Rows.printedRow.domain false Rows.printedRow.laid) (((OpenSpec.ofChange Rows.printedSpec).at F).post enc Tryz.prog Tryz.f10 false true false false):=by
 obtain⟨places,hx⟩:=aTU os enc
 refine returnsInHanded_of_row (C:=Tryz.checked) (s:=OpenSpec.ofChange Rows.printedSpec) own started (by kernel_rfl) Tryz.func10
  (witness_row_at (enc:=enc) (C:=Tryz.checked) false (bGN (World.holding Tryz.prog os ⟨#[],#[],[]⟩)) #[.string ⟨#[]⟩,.slice none 0 0,.int .i64 0] rfl (by kernel_rfl) (by kernel_rfl) (by kernel_rfl)
    (OpenSpec.preRow_of_cond 8 hx (by kernel_rfl) (fun k hk=>by cases hk) (by kernel_rfl) (aNL os))) ?_
 intro W base args ds gs before h0 hW _ _ _ hL _ _;exact aOF H enc W base args ds gs before h0 hW hL
theorem aUB:Rows.PrintedSaid:=
 OpenClaim.holds_of_cond 10 Tryz.f10 rfl rfl rfl rfl rfl rfl rfl ⟨rfl,rfl,rfl,rfl,rfl⟩ rfl rfl rfl rfl rfl (by kernel_rfl) Tryz.func10 aT9
  (of_decide_eq_true (by kernel_rfl)) (by unfold Func.isWrapper;first|(rw[if_pos (by decide+kernel)];kernel_rfl)|(rw[if_neg (by decide+kernel)];exact⟨rfl,rfl⟩))
  (fun os started H enc _ F=>by rw[OpenClaim.pre_eq_preRow];exact lifted os started H enc F)
theorem aHN(f:FuncId)(fn:Func)(hf:Tryz.pinned.checked.prog.funcNamed "surefoot/surefootkeep.Printed"=some f)(h1:Tryz.pinned.checked.prog.funcs[f]?=some fn):
 true=Tryz.pinned.checked.prog.looks []/\∀ (j:Nat) t,fn.params[j]?=some t->Tryz.pinned.checked.prog.wantsStandIn t=false:=by
 obtain rfl:f=10:=Oq ((show Tryz.prog.funcNamed "surefoot/surefootkeep.Printed"=some 10 by kernel_rfl).symm.trans hf)|>.symm;obtain rfl:fn=Tryz.f10:=(Oq (Tryz.func10.symm.trans h1)).symm;refine⟨by kernel_rfl,fun j t ht=>?_⟩;rw[Tryz.params10]at ht;have hm:t∈[9,30,3]:=by simpa using Array.mem_of_getElem? ht
 have h0:([9,30,3].all fun u=>!Tryz.prog.wantsStandIn u)=true:=by kernel_rfl
 exact(show Tryz.prog.wantsStandIn t=false by simpa using List.all_eq_true.1 h0 t hm)
end Go.Proofs.YtikffmloeifkpaaGreatDoor.printed
