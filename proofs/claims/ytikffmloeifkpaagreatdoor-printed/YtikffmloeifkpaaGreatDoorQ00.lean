/- Aids. -/
import Derived.WalkKit
import Derived.Below
namespace Go.Proofs.YtikffmloeifkpaaGreatDoor
open Go.RowKit
theorem Oa{p:Prop}(h:p:=by omega):p:=h
theorem Ob{p:Prop}(h:p:=by decide):p:=h
theorem Od{p:Prop}(h:p:=by simp):p:=h
theorem Og{w:World}{g j:Nat}{c:Array Value}{t:TypeId}{f:Nat×Nat}{v:Value}(h:w.heap[g]?=some (.cells c t f))(k:c[j]?=some v):w.cell? ⟨g,j,none⟩=some v:=(cell_of_row w g j c t f h).trans k
theorem Oh{α:Sort _}{c:Prop}[Decidable c]{a b:α}(h:¬c:=by omega):ite c a b=b:=if_neg h
theorem Oi{a p:Prop}(h:a)(k:a->p:=by intro;omega):p:=k h
theorem Qa{a b p:Prop}(h:a)(i:b)(k:a->b->p:=by intros;omega):p:=k h i
theorem Oj(g:Nat)(h:0<g:=by omega):∃ m,g=m+1:=⟨g-1,by omega⟩
theorem Ol{n:Nat}:n<=n:=Nat.le_refl n
theorem Om{w:World}{a:Addr}{u:Value}{k:Nat}(h:k≠a.block):(w.setCell a u).heap[k]?=w.heap[k]?:=Below.heap_setCell w a u k h
theorem On{w:World}{o:Obj}{k:Nat}(h:k<w.heap.size):(w.alloc o).heap[k]?=w.heap[k]?:=Below.heap_alloc w o k h
theorem Oo{α:Type _}{a:Array α}{i:Nat}{x:α}(h:a[i]?=some x):i<a.size:=(Array.getElem?_eq_some_iff.1 h).1
theorem Oq{α:Type _}{a b:α}(h:some a=some b):a=b:=Option.some.inj h
theorem Ot{α:Sort _}{x:α}{a b c d:Prop}:a\/b\/c\/d\/x=x:=.inr (.inr (.inr (.inr rfl)))
theorem Ou{α:Sort _}{x:α}{a b c d:Prop}:a\/b\/c\/x=x\/d:=.inr (.inr (.inr (.inl rfl)))
theorem Ov{α:Sort _}{x:α}{a b d:Prop}:a\/b\/x=x\/d:=.inr (.inr (.inl rfl))
theorem Ow{α:Sort _}{x:α}{a d:Prop}:a\/x=x\/d:=.inr (.inl rfl)
theorem Ox{α:Sort _}{x:α}{d:Prop}:x=x\/d:=.inl rfl
theorem Oy{α:Sort _}{x:α}{a:Prop}:a\/x=x:=.inr rfl
theorem Oz{α:Sort _}{x:α}{a b c:Prop}:a\/b\/c\/x=x:=.inr (.inr (.inr rfl))
abbrev Qb:=@heap_alloc_new
abbrev Qc:=@Nat.le_refl
abbrev Qd:=@Nat.le_trans
abbrev Qe:=@Nat.zero_le
abbrev Qf:=@World.cell?_of_block
abbrev Qg:=@World.block_lt_of_cell?
abbrev Qh:=@Array.getElem?_setIfInBounds_ne
abbrev Qi:=@List.mem_of_getElem?
abbrev Qj:=@List.mem_cons_self
abbrev Qk:=@Nat.lt_or_ge
abbrev Ql:=@List.mem_cons_of_mem
abbrev Qm:=@Below.setCell
end Go.Proofs.YtikffmloeifkpaaGreatDoor
