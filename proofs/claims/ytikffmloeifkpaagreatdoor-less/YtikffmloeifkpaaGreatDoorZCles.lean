/- For every text, arguments and two fuels: the run with less fuel ends as the one with more, or it is Spent and has told a beginning of it. No condition. -/
import Derived.Test.YtikffmloeifkpaaGreatDoorL25
import Derived.Test.YtikffmloeifkpaaGreatDoorZLls
import Derived.Test.YtikffmloeifkpaaGreatDoorZCgless
namespace Go.Proofs.YtikffmloeifkpaaGreatDoor.less
open Go.ChangeShapes Go.WideShapes Go.ChangeAt Go.RowKit Go.ChangeMaps
theorem aR7:Tryz.prog.cellsOf 2=1:=by kernel_rfl
theorem aTN{n:Int}(h:(Lit.int .i64 n).wf=true):-9223372036854775808<=n/\n<=9223372036854775807:=bounds_i64 h
set_option maxRecDepth 100000 in
theorem aOF(H:Type)(enc:TypeId × Value->H)(W:World)(base:Nat)(args:Array Value)(ds gs:List (DataW H))(before:List MemPlace)(h4:∀ (j:Nat) t v,Tryz.f5.params[j]?=some t->args[j]?=some v->Value.okWide Tryz.prog W .any base t v)(hW:DataW.Whole enc Tryz.prog Tryz.f5.params.toList Rows.lessSpec.vars false W args.toList ds gs before)(hL:laidMetH Tryz.prog Rows.lessRow.laid W):
 Calls Tryz.prog 5 args W fun e W'=>∃ v,e= .returned v/\Rows.lessSpec.post enc Tryz.prog Tryz.f5 false true false false W args v W':=by
 have h8:=hW;obtain⟨p,q,h9,hV,rfl,hfz,hnd⟩:=hW;have hA:DataW.TrodAll enc Tryz.prog W 0 (fun _=>true) true Tryz.f5.params.toList args.toList ds p:=h9;rw[Tryz.params5]at hA h4;obtain⟨v0,vs0,d0,ds0,p0,q0,hargs,rfl,rfl,h0,r0⟩:=trodAll_cons hA;obtain⟨v1,vs1,d1,ds1,p1,q1,rfl,rfl,rfl,h1,r1⟩:=trodAll_cons r0;obtain⟨v2,vs2,d2,ds2,p2,q2,rfl,rfl,rfl,h2,r2⟩:=trodAll_cons r1;obtain⟨v3,vs3,d3,ds3,p3,q3,rfl,rfl,rfl,h3,r3⟩:=trodAll_cons r2;obtain⟨rfl,rfl,rfl⟩:=trodAll_nil r3;obtain rfl:args=#[v0,v1,v2,v3]:=by cases args;simp_all
 obtain⟨rfl,rfl⟩:=trodVars_none hV;obtain⟨s,rfl,rfl,rfl,ws⟩:=open_string Tryz.underlying9 (h4 0 9 v0 rfl rfl) h0;obtain⟨a2,rfl,rfl,rfl,w2⟩:=open_int Tryz.underlying3 (h4 2 3 v2 rfl rfl) h2;obtain⟨a3,rfl,rfl,rfl,w3⟩:=open_int Tryz.underlying3 (h4 3 3 v3 rfl rfl) h3;obtain⟨ad,len,cap,rfl⟩:=okWide_slice Tryz.underlying30 (h4 1 30 v1 rfl rfl);have k3:=h1;obtain⟨fuel1,k2⟩:=h1;clear h9;simp only[List.append_nil,List.nil_append]at h8;have k0:∀ x∈p1,x.block < W.heap.size:=fun x hx=>by simpa using h8.lt x hx
 have h5:∃ xs:List Int,xK W (.slice ad len cap) xs:=by
  rcases open_ints Tryz.underlying30 Tryz.underlying2 aR7 k2 with⟨h6,_⟩|⟨a,l,c,zs,h6,_,hlc,_,hz,_,h7,_⟩
  ·simp[Value.cells]at h6;obtain⟨rfl,rfl,rfl⟩:=h6;exact⟨[],none,0,rfl,fun h=>absurd h (by simp)⟩
  ·simp[Value.cells]at h6;obtain⟨rfl,rfl,rfl⟩:=h6
   have hl:(zs.take len).length=len:=by
    rw[List.length_take,hz]
    split<;>omega
   refine⟨zs.take len,some a,cap,by rw[hl],fun _=>⟨a,rfl,fun j v hj=>?_⟩⟩;rw[List.getElem?_map]at hj;cases hq:(zs.take len)[j]? with
   |none=>rw[hq]at hj;cases hj
   |some n=>
    rw[hq]at hj;simp only[Option.map_some,Option.some.injEq]at hj
    have k1:j < zs.length:=by
     have:=(List.getElem?_eq_some_iff.1 hq).1;rw[List.length_take]at this;omega
    have hn:zs.getD j 0=n:=by
     rw[List.getElem?_take]at hq
     split at hq
     ·rw[List.getD_eq_getElem?_getD,hq];rfl
     ·cases hq
    rw[h7 j k1,hn,hj]
 obtain⟨xs,h5⟩:=h5;refine(bDC s _ xs a2 a3 W (aDB hL) ws h5 (aTN w2) (aTN w3)).mono fun e W' ⟨he,hb⟩=>?_;subst he;refine⟨_,rfl,_,_,_,[],[]++(p1++([]++([]++[]))),[],h8,?_,?_,rfl,hb.frame _,fun h=>by cases h⟩
 ·exact trodAll_cons_mk (shut_bool Tryz.underlying4 _) trodAll_mk0
 ·exact trodAll_cons_mk (shut_string Tryz.underlying9 ws) (trodAll_cons_mk (aDF (by kernel_rfl) (of_decide_eq_true (by kernel_rfl)) k3 hb k0) (trodAll_cons_mk (shut_int Tryz.underlying3 w2) (trodAll_cons_mk (shut_int Tryz.underlying3 w3) trodAll_mk0)))
theorem aNL(os:Os):laidMet Tryz.prog Rows.lessRow.laid ((bD7 (World.holding Tryz.prog os ⟨#[],#[],[]⟩)).forCall (fun _ _=>0) ⟨#[],#[.string ⟨#[]⟩,.slice none 0 0,.int .i64 0,.int .i64 0],[]⟩).memory:=
 laidMet_of_run' 8 (by kernel_rfl) (by kernel_rfl)
theorem aTU(os:Os){H:Type}(enc:TypeId × Value->H):∃ places,DataW.whole enc Tryz.prog ((bD7 (World.holding Tryz.prog os ⟨#[],#[],[]⟩)).forCall (fun _ _=>0) ⟨#[],#[.string ⟨#[]⟩,.slice none 0 0,.int .i64 0,.int .i64 0],[]⟩).memory Tryz.f5.params.toList Rows.lessSpec.vars false #[Value.string ⟨#[]⟩,.slice none 0 0,.int .i64 0,.int .i64 0].toList 8=some ([.lit (.string []),.nil,.lit (.int .i64 0),.lit (.int .i64 0)],[],places):=
 ⟨[],by kernel_rfl⟩
set_option maxRecDepth 100000 in
theorem lifted(os:Os)(started:os.Started)(H:Type)(enc:TypeId × Value->H)(F:Stop.Interp):
 ReturnsInHanded {} Tryz.checked os 5 .any ((OpenSpec.ofChange Rows.lessSpec).preRow enc Tryz.prog Tryz.f5 Rows.lessRow.domain false Rows.lessRow.laid) (((OpenSpec.ofChange Rows.lessSpec).at F).post enc Tryz.prog Tryz.f5 false true false false):=by
 obtain⟨places,hx⟩:=aTU os enc
 refine returnsInHanded_of_row (C:=Tryz.checked) (s:=OpenSpec.ofChange Rows.lessSpec) own started (by kernel_rfl) Tryz.func5
  (witness_row_at (enc:=enc) (C:=Tryz.checked) false (bD7 (World.holding Tryz.prog os ⟨#[],#[],[]⟩)) #[.string ⟨#[]⟩,.slice none 0 0,.int .i64 0,.int .i64 0] rfl (by kernel_rfl) (by kernel_rfl) (by kernel_rfl)
    (OpenSpec.preRow_of_cond 8 hx (by kernel_rfl) (fun k hk=>by cases hk) (by kernel_rfl) (aNL os))) ?_
 intro W base args ds gs before h0 hW _ _ _ hL _ _;exact aOF H enc W base args ds gs before h0 hW hL
theorem aUB:Rows.LessSaid:=
 OpenClaim.holds_of_cond 5 Tryz.f5 rfl rfl rfl rfl rfl rfl rfl ⟨rfl,rfl,rfl,rfl,rfl⟩ rfl rfl rfl rfl rfl (by kernel_rfl) Tryz.func5 aT9
  (of_decide_eq_true (by kernel_rfl)) (by unfold Func.isWrapper;first|(rw[if_pos (by decide+kernel)];kernel_rfl)|(rw[if_neg (by decide+kernel)];exact⟨rfl,rfl⟩))
  (fun os started H enc _ F=>by rw[OpenClaim.pre_eq_preRow];exact lifted os started H enc F)
theorem aHN(f:FuncId)(fn:Func)(hf:Tryz.pinned.checked.prog.funcNamed "surefoot/surefootkeep.Less"=some f)(h1:Tryz.pinned.checked.prog.funcs[f]?=some fn):
 true=Tryz.pinned.checked.prog.looks []/\∀ (j:Nat) t,fn.params[j]?=some t->Tryz.pinned.checked.prog.wantsStandIn t=false:=by
 obtain rfl:f=5:=Option.some.inj ((show Tryz.prog.funcNamed "surefoot/surefootkeep.Less"=some 5 by kernel_rfl).symm.trans hf)|>.symm;obtain rfl:fn=Tryz.f5:=(Option.some.inj (Tryz.func5.symm.trans h1)).symm;refine⟨by kernel_rfl,fun j t ht=>?_⟩;rw[Tryz.params5]at ht;have hm:t∈[9,30,3,3]:=by simpa using Array.mem_of_getElem? ht
 have h0:([9,30,3,3].all fun u=>!Tryz.prog.wantsStandIn u)=true:=by kernel_rfl
 exact(show Tryz.prog.wantsStandIn t=false by simpa using List.all_eq_true.1 h0 t hm)
theorem card:Rows.LessCardSaid:=
 Claim7.holds_tied_plain_at .later [] _ _ _ _ aUB (fun _ h=>by cases h) (by kernel_rfl) (fun _ h=>by cases h) less_row_tie rfl ⟨rfl,rfl⟩ (by kernel_rfl) rfl aHN (by kernel_rfl)
#print axioms card
end Go.Proofs.YtikffmloeifkpaaGreatDoor.less
