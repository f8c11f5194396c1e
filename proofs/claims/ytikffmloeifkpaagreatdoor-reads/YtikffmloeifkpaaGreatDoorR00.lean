/- Aids. -/
import Derived.WalkKit
import Derived.Below
theorem Eq.t{α:Sort _}{a b c:α}(h:a=b)(k:b=c):a=c:=h.trans k
theorem Iff.t{a b c:Prop}(h:a↔b)(k:b↔c):a↔c:=h.trans k
theorem Or.l{a b:Prop}(h:a):a\/b:=Or.inl h
theorem Or.r{a b:Prop}(h:b):a\/b:=Or.inr h
namespace Go.RowKit
theorem Hid.o{p:Prop}(h:Hid p):p:=h
theorem Below.t{b:Nat}{u v w:World}(h:Below b u v)(k:Below b v w):Below b u w:=h.trans k
end Go.RowKit
namespace Go.Proofs.YtikffmloeifkpaaGreatDoor
open Go.RowKit
abbrev Qc(n:Int):Value:=.int .i64 n
abbrev Qd(b:Nat):Value:=.pointer (some ⟨b,0,none⟩)
abbrev Qe(b n c:Nat):Value:=.slice (some ⟨b,0,none⟩) n c
abbrev Qf(c:Array Value)(t:TypeId):Obj:=.cells c t (0,0)
theorem Oa{p:Prop}(h:p:=by omega):p:=h
theorem Ob{p:Prop}(h:p:=by decide):p:=h
theorem Od{p:Prop}(h:p:=by simp):p:=h
theorem Qg{p:Prop}(h:p:=by grind):p:=h
theorem Qh{p:Prop}(h:p:=by simp[*]):p:=h
theorem Qi{p:Prop}(h:p:=by assumption):p:=h
theorem Qj{p:Prop}(h:p:=by trivial):p:=h
theorem Og{w:World}{g j:Nat}{c:Array Value}{t:TypeId}{f:Nat×Nat}{v:Value}(h:w.1[g]?=some (.cells c t f))(k:c[j]?=some v):w.cell? ⟨g,j,none⟩=some v:=(cell_of_row w g j c t f h).t k
theorem Oh{α:Sort _}{c:Prop}[Decidable c]{a b:α}(h:¬c:=by omega):ite c a b=b:=if_neg h
theorem Oi{a p:Prop}(h:a)(k:a->p:=by intro;omega):p:=k h
theorem Qb{a b p:Prop}(h:a)(i:b)(k:a->b->p:=by intros;omega):p:=k h i
theorem Oj(g:Nat)(h:0<g:=by omega):∃ m,g=m+1:=⟨g-1,by omega⟩
theorem Ol{n:Nat}:n<=n:=Nat.le_refl n
theorem Om{w:World}{a:Addr}{u:Value}{k:Nat}(h:k≠a.block):(w.setCell a u).1[k]?=w.1[k]?:=Below.heap_setCell w a u k h
theorem On{w:World}{o:Obj}{k:Nat}(h:k<w.1.size):(w.alloc o).1[k]?=w.1[k]?:=Below.heap_alloc w o k h
theorem Oo{α:Type _}{a:Array α}{i:Nat}{x:α}(h:a[i]?=some x):i<a.size:=(Array.getElem?_eq_some_iff.1 h).1
theorem Oq{α:Type _}{a b:α}(h:some a=some b):a=b:=Option.some.inj h
theorem Ot{α:Sort _}{x:α}{a b c d:Prop}:a\/b\/c\/d\/x=x:=.r (.r (.r (.r rfl)))
theorem Ou{α:Sort _}{x:α}{a b c d:Prop}:a\/b\/c\/x=x\/d:=.r (.r (.r (.l rfl)))
theorem Ov{α:Sort _}{x:α}{a b d:Prop}:a\/b\/x=x\/d:=.r (.r (.l rfl))
theorem Ox{α:Sort _}{x:α}{a d:Prop}:a\/x=x\/d:=.r (.l rfl)
theorem Oy{α:Sort _}{x:α}{d:Prop}:x=x\/d:=.l rfl
theorem Oz{α:Sort _}{x:α}{a:Prop}:a\/x=x:=.r rfl
theorem Qa{α:Sort _}{x:α}{a b c:Prop}:a\/b\/c\/x=x:=.r (.r (.r rfl))
abbrev Qk:=@heap_alloc_new
abbrev Ql:=@Nat.le_refl
abbrev Qm:=@Nat.le_trans
abbrev Qn:=@Nat.zero_le
abbrev Qo:=@World.cell?_of_block
abbrev Qp:=@World.block_lt_of_cell?
abbrev Qq:=@Array.getElem?_setIfInBounds_ne
abbrev Qr:=@List.mem_of_getElem?
abbrev Qs:=@List.mem_cons_self
abbrev Qt:=@Nat.lt_or_ge
abbrev Qu:=@List.mem_cons_of_mem
abbrev Qv:=@Below.setCell
end Go.Proofs.YtikffmloeifkpaaGreatDoor
