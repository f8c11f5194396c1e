/- Contracts. -/
import Derived.Test.YtikffmloeifkpaaGreatDoorR16
import Derived.Test.YtikffmloeifkpaaGreatDoorZQvh
import Derived.Test.YtikffmloeifkpaaGreatDoorZCgreads
namespace Go.Proofs.YtikffmloeifkpaaGreatDoor.reads
open Go.ChangeShapes Go.WideShapes Go.ChangeAt Go.RowKit Go.ChangeMaps
set_option maxRecDepth 100000 in
theorem aTL(H:Type)(enc:TypeId × Value->H)(W:World)(k:Nat)(args:Array Value)(b m:List (DataW H))(l:List MemPlace)(c:∀ (j:Nat) t v,Tryz.f3.params[j]?=some t->args[j]?=some v->Value.okWide Tryz.prog W .any k t v)(i:DataW.Whole enc Tryz.prog Tryz.f3.params.toList Rows.readsSpec.vars false W args.toList b m l)(n:laidMetH Tryz.prog Rows.readsRow.laid W):
 Calls Tryz.prog 3 args W fun e a=>∃ v,e= .returned v/\Rows.readsSpec.post enc Tryz.prog Tryz.f3 false true false false W args v a:=by
 have d:=i;obtain⟨r,z,f,o,rfl,x,y⟩:=i;have g:DataW.TrodAll enc Tryz.prog W 0 (fun _=>true) true Tryz.f3.params.toList args.toList b r:=f;rw[Tryz.params3]at g c;obtain⟨v0,B,d0,u,p0,A,w,rfl,rfl,h0,r0⟩:=trodAll_cons g;obtain⟨rfl,rfl,rfl⟩:=trodAll_nil r0;obtain rfl:args=#[v0]:=by cases args;simp_all
 obtain⟨rfl,rfl⟩:=trodVars_none o;obtain⟨s,rfl,rfl,rfl,ws⟩:=open_string Tryz.underlying9 (c 0 9 v0 rfl rfl) h0;clear f;simp only[List.append_nil]at d;refine(aQ2 s W (aHS n) ws).mono fun e a ⟨q,p⟩=>?_;subst q;refine⟨_,rfl,_,_,_,[],[],[],d,?_,?_,rfl,p.frame _,fun h=>by cases h⟩
 ·exact trodAll_cons_mk (shut_bool Tryz.underlying4 _) trodAll_mk0
 ·exact trodAll_cons_mk (shut_string Tryz.underlying9 ws) trodAll_mk0
theorem aSW(a:Os):laidMet Tryz.prog Rows.readsRow.laid ((aL5 (World.holding Tryz.prog a ⟨#[],#[],[]⟩)).forCall (fun _ _=>0) ⟨#[],#[.string ⟨#[]⟩],[]⟩).memory:=
 laidMet_of_run' 8 (by kernel_rfl) (by kernel_rfl)
theorem reads(a:Os){H:Type}(enc:TypeId × Value->H):∃ b,DataW.whole enc Tryz.prog ((aL5 (World.holding Tryz.prog a ⟨#[],#[],[]⟩)).forCall (fun _ _=>0) ⟨#[],#[.string ⟨#[]⟩],[]⟩).memory Tryz.f3.params.toList Rows.readsSpec.vars false #[Value.string ⟨#[]⟩].toList 8=some ([.lit (.string [])],[],b):=
 ⟨[],by kernel_rfl⟩
set_option maxRecDepth 100000 in
theorem lifted(a:Os)(j:a.Started)(H:Type)(enc:TypeId × Value->H)(F:Stop.Interp):
 ReturnsInHanded {} Tryz.checked a 3 .any ((OpenSpec.ofChange Rows.readsSpec).preRow enc Tryz.prog Tryz.f3 Rows.readsRow.domain false Rows.readsRow.laid) (((OpenSpec.ofChange Rows.readsSpec).at F).post enc Tryz.prog Tryz.f3 false true false false):=by
 obtain⟨l,i⟩:=reads a enc
 refine returnsInHanded_of_row (C:=Tryz.checked) (s:=OpenSpec.ofChange Rows.readsSpec) own j (by kernel_rfl) Tryz.func3
  (witness_row_at (enc:=enc) (C:=Tryz.checked) false (aL5 (World.holding Tryz.prog a ⟨#[],#[],[]⟩)) #[.string ⟨#[]⟩] rfl (by kernel_rfl) (by kernel_rfl) (by kernel_rfl)
    (OpenSpec.preRow_of_cond 8 i (by kernel_rfl) (fun k h=>by cases h) (by kernel_rfl) (aSW a))) ?_
 intro W b args d e c h0 g _ _ _ f _ _;exact aTL H enc W b args d e c h0 g f
theorem bAB:Rows.ReadsSaid:=
 OpenClaim.holds_of_cond 3 Tryz.f3 rfl rfl rfl rfl rfl rfl rfl ⟨rfl,rfl,rfl,rfl,rfl⟩ rfl rfl rfl rfl rfl (by kernel_rfl) Tryz.func3 aYU
  (of_decide_eq_true (by kernel_rfl)) (by unfold Func.isWrapper;first|(rw[if_pos (by decide+kernel)];kernel_rfl)|(rw[if_neg (by decide+kernel)];exact⟨rfl,rfl⟩))
  (fun b c H a _ F=>by rw[OpenClaim.pre_eq_preRow];exact lifted b c H a F)
theorem aZU(f:FuncId)(a:Func)(d:Tryz.pinned.checked.prog.funcNamed "surefoot/surefootlaw.Reads"=some f)(c:Tryz.pinned.checked.prog.funcs[f]?=some a):
 true=Tryz.pinned.checked.prog.looks []/\∀ (j:Nat) t,a.params[j]?=some t->Tryz.pinned.checked.prog.wantsStandIn t=false:=by
 obtain rfl:f=3:=Oq ((show Tryz.prog.funcNamed "surefoot/surefootlaw.Reads"=some 3 by kernel_rfl).symm.t d)|>.symm;obtain rfl:a=Tryz.f3:=(Oq (Tryz.func3.symm.t c)).symm;refine⟨by kernel_rfl,fun j t b=>?_⟩;rw[Tryz.params3]at b;have e:t∈[9]:=by simpa using Array.mem_of_getElem? b
 have h0:([9].all fun u=>!Tryz.prog.wantsStandIn u)=true:=by kernel_rfl
 exact(show Tryz.prog.wantsStandIn t=false by simpa using List.all_eq_true.1 h0 t e)
end Go.Proofs.YtikffmloeifkpaaGreatDoor.reads
