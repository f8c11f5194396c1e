/- The program's contracts, part 6: each says what a function of the program does, for every argument that its premises name. -/
import Derived.Test.YtikffmloeifkpaaGreatDoorM05
import Derived.Deep.Trees
/- Package grammar: what is read of a text, as plain data; what of it lies in memory. -/
namespace Go.Proofs.YtikffmloeifkpaaGreatDoor
open Go.RowKit Go.Lib Go.Deep

/-- A part of a program. Its kind: 0 a number, 1 a variable, 2 an array's number, 3 a call, 4 a bracket, 5 turned round, 6 two values, 7 a comparison, 8 two conditions, 9 a variable's value, 10 an array's value, 11 if, 12 while, 13 return, 14 out, 15 a list's element, 16 an array, 17 a function, 18 two parts, 19 a parameter, 20 a list. -/
structure Nd where
  tag : Nat
  op : Int := 0
  pos : Int := 0
  name : ByteArray := ByteArray.mk #[]
  npos : Int := 0
  val : Int := 0
  flag : Bool := false
  which : Int := 0
  site : Int := 0

abbrev Tr := BT Nd
def mk (a : Nd) (l r : Tr) : Tr := .node 0 0 a l r
def er : Tr → Tr
  | .nil => .nil
  | .node _ _ a l r => .node 0 0 a (er l) (er r)
def lenL : Tr → Nat
  | .nil => 0
  | .node _ _ _ _ r => lenL r + 1
theorem lenL_er (t : Tr) : lenL (er t) = lenL t := by
  induction t with
  | nil => rfl
  | node b o a l r _ ih => simp only [er, lenL, ih]

/-- The type of the pointer that an interface value holds. -/
def ityp (n : Nat) : TypeId :=
  if n = 0 then 362 else if n = 1 then 359 else if n = 2 then 393 else if n = 3 then 396 else if n = 4 then 398 else if n = 5 then 401
  else if n = 6 then 403 else if n = 7 then 253 else if n = 8 then 407 else if n = 9 then 326 else if n = 10 then 329 else if n = 11 then 332
  else if n = 12 then 338 else if n = 13 then 341 else if n = 14 then 344 else if n = 16 then 192 else 106

/-- The value that a part is, where it stands in another one. -/
def valT : Tr → Value
  | .nil => .slice none 0 0
  | .node b o a l _ => if a.tag = 20 then .slice (some ⟨b, 0, none⟩) (lenL l) o else .iface (ityp a.tag) (.pointer (some ⟨b, 0, none⟩))
def ptrT : Tr → Value
  | .nil => .pointer none
  | .node b _ _ _ _ => .pointer (some ⟨b, 0, none⟩)

def At (w : World) (k : Nat) (t : TypeId) (Q : Array Value → Prop) : Prop := ∃ cs, w.heap[k]? = some (.cells cs t (0, 0)) ∧ Q cs
def Nam (cs : Array Value) (o : Nat) (a : Nd) : Prop := cs[o]? = some (.string a.name) ∧ cs[o + 1]? = some (.int .i64 a.npos) ∧ cs[o + 2]? = some (.int .i64 a.which)

/-- An element's cells, from a place of a row on: a parameter has three. -/
def elemOk (cs : Array Value) (o : Nat) : Tr → Prop
  | .nil => False
  | .node b o' a l r => if a.tag = 19 then Nam cs (o * 3) a else if a.tag = 7 then cs[o]? = some (ptrT (.node b o' a l r)) else cs[o]? = some (valT (.node b o' a l r))
def rowOk (cs : Array Value) : Nat → Tr → Prop
  | _, .nil => True
  | o, .node _ _ _ l r => elemOk cs o l ∧ rowOk cs (o + 1) r

def rowTyp (l : Tr) : TypeId := match l with
  | .node _ _ _ (.node _ _ a _ _) _ => if a.tag = 19 then 100 else if a.tag = 7 then 253 else if a.tag < 7 then 269 else if a.tag < 15 then 250 else 151
  | _ => 0

/-- What lies in a part's own block. -/
def OwnN (n : Nat) (w : World) (b : Nat) (a : Nd) (l r : Tr) : Prop := match n with
  | 0 => At w b 364 fun cs => cs[0]? = some (.int .i64 a.val)
  | 1 => At w b 361 fun cs => Nam cs 0 a
  | 2 => At w b 395 fun cs => Nam cs 0 a ∧ cs[3]? = some (valT l) ∧ cs[4]? = some (.int .i64 a.site)
  | 3 => At w b 450 fun cs => Nam cs 0 a ∧ cs[3]? = some (valT l) ∧ cs[4]? = some (.int .i64 a.site)
  | 4 => At w b 400 fun cs => cs[0]? = some (valT l)
  | 5 => At w b 402 fun cs => cs[0]? = some (valT l)
  | 6 => At w b 405 fun cs => cs[0]? = some (.int .i64 a.op) ∧ cs[1]? = some (.int .i64 a.pos) ∧ cs[2]? = some (valT l) ∧ cs[3]? = some (valT r) ∧ cs[4]? = some (.int .i64 a.site)
  | 7 => At w b 271 fun cs => cs[0]? = some (.int .i64 a.op) ∧ cs[1]? = some (.int .i64 a.pos) ∧ cs[2]? = some (valT l) ∧ cs[3]? = some (valT r)
  | 8 => At w b 409 fun cs => cs[0]? = some (.int .i64 a.op) ∧ cs[1]? = some (valT l) ∧ cs[2]? = some (valT r)
  | 9 => At w b 328 fun cs => Nam cs 0 a ∧ cs[3]? = some (valT l) ∧ cs[4]? = some (.bool a.flag)
  | 10 => At w b 331 fun cs => Nam cs 0 a ∧ cs[3]? = some (valT l) ∧ cs[4]? = some (valT r) ∧ cs[5]? = some (.int .i64 a.site)
  | 11 => At w b 337 fun cs => cs[0]? = some (valT l) ∧ ∃ x y z p q, r = .node x y z p q ∧ cs[1]? = some (valT p) ∧ cs[2]? = some (valT q)
  | 12 => At w b 340 fun cs => cs[0]? = some (valT l) ∧ cs[1]? = some (valT r)
  | 13 => At w b 343 fun cs => cs[0]? = some (valT l)
  | 14 => At w b 345 fun cs => cs[0]? = some (valT l)
  | 16 => At w b 196 fun cs => Nam cs 0 a ∧ cs[3]? = some (.int .i64 a.val) ∧ cs[4]? = some (.int .i64 a.pos)
  | 17 => At w b 105 fun cs => Nam cs 0 a ∧ cs[3]? = some (valT l) ∧ ∃ x y z p q, r = .node x y z p q ∧ cs[4]? = some (valT p) ∧ cs[5]? = some (valT q) ∧ cs[6]? = some (.int .i64 a.val)
  | 20 => l ≠ .nil ∧ At w b (rowTyp l) fun cs => rowOk cs 0 l
  | _ => True
def Own (w : World) (b : Nat) (a : Nd) (l r : Tr) : Prop := OwnN a.tag w b a l r

def IsT (w : World) : Tr → Prop
  | .nil => True
  | .node b _ a l r => IsT w l ∧ IsT w r ∧ Own w b a l r

variable {T : List Tok} {g cap b : Nat} {r : Rd} {w w' : World}

theorem At.keep {k : Nat} {t : TypeId} {Q : Array Value → Prop} (h : At w k t Q) {c : Array Value} (hb : w.heap[b]? = some (.cells c 145 (0, 0))) (ht : t ≠ 145) (he : Ex b w w') : At w' k t Q := by
  obtain ⟨cs, hc, hq⟩ := h
  refine ⟨cs, (he.block k (Array.getElem?_eq_some_iff.1 hc).1 ?_).trans hc, hq⟩
  intro e
  rw [e, hb] at hc
  simp only [Option.some.injEq, Obj.cells.injEq] at hc
  exact ht hc.2.1.symm

theorem rowTyp_ne (l : Tr) : rowTyp l ≠ 145 := by
  unfold rowTyp
  repeat' split
  all_goals decide

theorem OwnN.keep {n k : Nat} {a : Nd} {l r : Tr} (h : OwnN n w k a l r) {c : Array Value} (hb : w.heap[b]? = some (.cells c 145 (0, 0))) (he : Ex b w w') : OwnN n w' k a l r := by
  match n, h with
  | 0, h => exact At.keep h hb (by decide) he
  | 1, h => exact At.keep h hb (by decide) he
  | 2, h => exact At.keep h hb (by decide) he
  | 3, h => exact At.keep h hb (by decide) he
  | 4, h => exact At.keep h hb (by decide) he
  | 5, h => exact At.keep h hb (by decide) he
  | 6, h => exact At.keep h hb (by decide) he
  | 7, h => exact At.keep h hb (by decide) he
  | 8, h => exact At.keep h hb (by decide) he
  | 9, h => exact At.keep h hb (by decide) he
  | 10, h => exact At.keep h hb (by decide) he
  | 11, h => exact At.keep h hb (by decide) he
  | 12, h => exact At.keep h hb (by decide) he
  | 13, h => exact At.keep h hb (by decide) he
  | 14, h => exact At.keep h hb (by decide) he
  | 16, h => exact At.keep h hb (by decide) he
  | 17, h => exact At.keep h hb (by decide) he
  | 20, h => exact ⟨h.1, h.2.keep hb (rowTyp_ne _) he⟩
  | 15, _ | 18, _ | 19, _ => trivial
  | n + 21, _ => trivial
theorem Own.keep {k : Nat} {a : Nd} {l r : Tr} (h : Own w k a l r) {c : Array Value} (hb : w.heap[b]? = some (.cells c 145 (0, 0))) (he : Ex b w w') : Own w' k a l r := OwnN.keep h hb he

theorem IsT.keep {c : Array Value} (hb : w.heap[b]? = some (.cells c 145 (0, 0))) (he : Ex b w w') : ∀ t : Tr, IsT w t → IsT w' t := by
  intro t
  induction t with
  | nil => intro _; trivial
  | node k o a l r ihl ihr => intro h; exact ⟨ihl h.1, ihr h.2.1, h.2.2.keep hb he⟩
theorem IsT.ex {t : Tr} (h : IsT w t) (hr : RdW T g cap b r w) (he : Ex b w w') : IsT w' t := IsT.keep hr.blk he t h

/-- Which parts have a block of their own. -/
def placed (n : Nat) : Prop := n ≠ 15 ∧ n ≠ 18 ∧ n ≠ 19
/-- All its blocks are from H on. -/
def Fresh (H : Nat) : Tr → Prop
  | .nil => True
  | .node b _ a l r => Fresh H l ∧ Fresh H r ∧ (placed a.tag → H ≤ b)
/-- Block k is none of its own. -/
def NotIn (k : Nat) : Tr → Prop
  | .nil => True
  | .node b _ a l r => NotIn k l ∧ NotIn k r ∧ (placed a.tag → b ≠ k)
theorem Fresh.mono {H H' : Nat} (hH : H' ≤ H) : ∀ {t : Tr}, Fresh H t → Fresh H' t := by
  intro t
  induction t with
  | nil => intro _; trivial
  | node b o a l r ihl ihr => intro h; exact ⟨ihl h.1, ihr h.2.1, fun p => Nat.le_trans hH (h.2.2 p)⟩
theorem Fresh.notIn {H k : Nat} (hk : k < H) : ∀ {t : Tr}, Fresh H t → NotIn k t := by
  intro t
  induction t with
  | nil => intro _; trivial
  | node b o a l r ihl ihr => intro h; exact ⟨ihl h.1, ihr h.2.1, fun p => by have := h.2.2 p; omega⟩
theorem At.lt {w : World} {k : Nat} {t : TypeId} {Q : Array Value → Prop} (h : At w k t Q) : k < w.heap.size := by obtain ⟨cs, hc, _⟩ := h; exact (Array.getElem?_eq_some_iff.1 hc).1
theorem At.same {k : Nat} {t : TypeId} {Q : Array Value → Prop} (h : At w k t Q) (he : w'.heap[k]? = w.heap[k]?) : At w' k t Q := by obtain ⟨cs, hc, hq⟩ := h; exact ⟨cs, he.trans hc, hq⟩
theorem OwnN.lt {n k : Nat} {a : Nd} {l r : Tr} (h : OwnN n w k a l r) (hp : placed n) (hn : n < 21) : k < w.heap.size := by
  match n, h with
  | 0, h | 1, h | 2, h | 3, h | 4, h | 5, h | 6, h | 7, h | 8, h | 9, h | 10, h | 11, h | 12, h | 13, h | 14, h | 16, h | 17, h => exact At.lt h
  | 20, h => exact At.lt h.2
  | 15, _ => exact absurd rfl hp.1
  | 18, _ => exact absurd rfl hp.2.1
  | 19, _ => exact absurd rfl hp.2.2
  | n + 21, _ => omega
theorem OwnN.same {n k : Nat} {a : Nd} {l r : Tr} (h : OwnN n w k a l r) (he : placed n → w'.heap[k]? = w.heap[k]?) : OwnN n w' k a l r := by
  match n, h with
  | 0, h | 1, h | 2, h | 3, h | 4, h | 5, h | 6, h | 7, h | 8, h | 9, h | 10, h | 11, h | 12, h | 13, h | 14, h | 16, h | 17, h => exact At.same h (he (by unfold placed; omega))
  | 20, h => exact ⟨h.1, At.same h.2 (he (by unfold placed; omega))⟩
  | 15, _ | 18, _ | 19, _ => trivial
  | n + 21, _ => trivial
/-- All kinds are known. -/
def Known : Tr → Prop
  | .nil => True
  | .node _ _ a l r => Known l ∧ Known r ∧ a.tag < 21
theorem IsT.out : ∀ {t : Tr}, IsT w t → Known t → ∀ {k : Nat}, w.heap.size ≤ k → NotIn k t := by
  intro t
  induction t with
  | nil => intro _ _ _ _; trivial
  | node b o a l r ihl ihr => intro h hn k hk; exact ⟨ihl h.1 hn.1 hk, ihr h.2.1 hn.2.1 hk, fun p => by have := OwnN.lt h.2.2 p hn.2.2; omega⟩
/-- Only a block that is none of its own has turned. -/
theorem IsT.but {k : Nat} (hw : ∀ i, i < w.heap.size → i ≠ k → w'.heap[i]? = w.heap[i]?) : ∀ {t : Tr}, IsT w t → Known t → NotIn k t → IsT w' t := by
  intro t
  induction t with
  | nil => intro _ _ _; trivial
  | node b o a l r ihl ihr =>
    intro h hn hk
    exact ⟨ihl h.1 hn.1 hk.1, ihr h.2.1 hn.2.1 hk.2.1, OwnN.same h.2.2 (fun p => hw b (OwnN.lt h.2.2 p hn.2.2) (hk.2.2 p))⟩

/-- A tree in memory, all in blocks from H on. -/
structure New (H : Nat) (w : World) (t : Tr) : Prop where
  is : IsT w t
  fresh : Fresh H t
  known : Known t
theorem New.ex {H : Nat} {t : Tr} (h : New H w t) (hr : RdW T g cap b r w) (he : Ex b w w') : New H w' t := ⟨h.is.ex hr he, h.fresh, h.known⟩
theorem New.mono {H H' : Nat} {t : Tr} (h : New H w t) (hH : H' ≤ H) : New H' w t := ⟨h.is, h.fresh.mono hH, h.known⟩
theorem New.nil (H : Nat) (w : World) : New H w .nil := ⟨trivial, trivial, trivial⟩
theorem New.node {H k o : Nat} {a : Nd} {l q : Tr} (hl : New H w l) (hq : New H w q) (hk : placed a.tag → H ≤ k) (hn : a.tag < 21) (ho : Own w k a l q) : New H w (.node k o a l q) :=
  ⟨⟨hl.is, hq.is, ho⟩, ⟨hl.fresh, hq.fresh, hk⟩, ⟨hl.known, hq.known, hn⟩⟩
theorem New.out {H : Nat} {t : Tr} (h : New H w t) {k : Nat} (hk : w.heap.size ≤ k) : NotIn k t := h.is.out h.known hk
theorem New.but {H k : Nat} {t : Tr} (h : New H w t) (hw : ∀ i, i < w.heap.size → i ≠ k → w'.heap[i]? = w.heap[i]?) (hk : NotIn k t) : New H w' t := ⟨h.is.but hw h.known hk, h.fresh, h.known⟩
end Go.Proofs.YtikffmloeifkpaaGreatDoor

/- Package grammar: its functions as plain ones. -/
namespace Go.Proofs.YtikffmloeifkpaaGreatDoor
open Go.RowKit Go.Lib Go.Deep
variable (T : List Tok)

abbrev Pr := Rd → Rd × Tr
abbrev Prs := Nat → Pr

def cons (e l : Tr) : Tr := mk { tag := 15 } e l
def listed (l : Tr) : Tr := match l with
  | .nil => .nil
  | l => mk { tag := 20 } l .nil

def chainL (part : Pr) (ops : List Int) : Nat → Rd → Tr → Rd × Tr
  | 0, r, v => (r, v)
  | n + 1, r, v => if stands T r ops then chainL part ops n (part (r.take T ops)).1 (mk { tag := 6, op := (took T r ops).kind, pos := (took T r ops).pos } v (part (r.take T ops)).2) else (r, v)
def chainP (part : Pr) (ops : List Int) (n : Nat) : Pr := fun r => chainL T part ops n (part r).1 (part r).2
def logicL (part : Pr) (op : Int) : Nat → Rd → Tr → Rd × Tr
  | 0, r, v => (r, v)
  | n + 1, r, v => if stands T r [op] then logicL part op n (part (r.skips T [op])).1 (mk { tag := 8, op := op } v (part (r.skips T [op])).2) else (r, v)
def logicP (part : Pr) (op : Int) (n : Nat) : Pr := fun r => logicL T part op n (part r).1 (part r).2
def cmpOps : List Int := [23, 24, 25, 26, 21, 22]
def compareP (side : Pr) : Pr := fun r =>
  ((side ((side r).1.take T cmpOps)).1, mk { tag := 7, op := (took T (side r).1 cmpOps).kind, pos := (tokAt T r.next).pos } (side r).2 (side ((side r).1.take T cmpOps)).2)
def listL (one : Pr) : Nat → Rd → Rd × Tr
  | 0, r => (r, .nil)
  | n + 1, r => if stands T r [18] then ((listL one n (one (r.skips T [18])).1).1, cons (one (r.skips T [18])).2 (listL one n (one (r.skips T [18])).1).2) else (r, .nil)
def listP (one : Pr) (n : Nat) : Pr := fun r => ((listL T one n (one r).1).1, listed (cons (one r).2 (listL T one n (one r).1).2))

def number (v : Int) : Tr := mk { tag := 0, val := v } .nil .nil
def variable_ (t : Tok) : Tr := mk { tag := 1, name := t.text, npos := t.pos } .nil .nil

def indexP (expr : Pr) : Pr := fun r => ((expr (r.opened T [16])).1.shut T 17, (expr (r.opened T [16])).2)
def argsP (expr : Pr) (n : Nat) : Pr := fun r =>
  if stands T (r.opened T [12]) [13] then ((r.opened T [12]).shut T 13, .nil)
  else ((listP T expr n (r.opened T [12])).1.shut T 13, (listP T expr n (r.opened T [12])).2)
def namedP (expr : Pr) (n : Nat) (t : Tok) : Pr := fun r =>
  if stands T r [16] then ((indexP T expr r).1, mk { tag := 2, name := t.text, npos := t.pos } (indexP T expr r).2 .nil)
  else if stands T r [12] then ((argsP T expr n r).1, mk { tag := 3, name := t.text, npos := t.pos } (argsP T expr n r).2 .nil)
  else (r, variable_ t)
def facOps : List Int := [2, 1, 12, 28]
def factorP (expr factor : Pr) (n : Nat) : Pr := fun r =>
  let t := took T r facOps
  let r1 := r.take T facOps
  if t.kind = 2 then (r1, number t.value)
  else if t.kind = 12 then ((expr (r1.deeper T.length t.pos)).1.shut T 13, mk { tag := 4 } (expr (r1.deeper T.length t.pos)).2 .nil)
  else if t.kind = 28 then
    let q := factor (r1.deeper T.length t.pos)
    (⟨q.1.next, q.1.nest - 1, q.1.code, q.1.pos⟩, mk { tag := 5 } q.2 .nil)
  else namedP T expr n t r1

def atomP : Pr := fun r =>
  let t := took T r [28, 2, 1]
  let r1 := r.take T [28, 2, 1]
  if t.kind = 28 then (r1.take T [2], number (-(took T r1 [2]).value))
  else if t.kind = 2 then (r1, number t.value)
  else (r1, variable_ t)
def relP : Pr := compareP T (atomP T)

def valueP (expr : Pr) : Pr := fun r => ((expr r).1.take T [19], (expr r).2)
def setP (expr : Pr) (t : Tok) (isLet : Bool) : Pr := fun r =>
  ((valueP T expr (r.take T [20])).1, mk { tag := 9, name := t.text, npos := t.pos, flag := isLet } (valueP T expr (r.take T [20])).2 .nil)
def storeP (expr : Pr) (t : Tok) : Pr := fun r =>
  let i := indexP T expr r
  let v := valueP T expr (i.1.take T [20])
  (v.1, mk { tag := 10, name := t.text, npos := t.pos } i.2 v.2)
def blockL (stmt : Pr) : Nat → Rd → Rd × Tr
  | 0, r => (r, .nil)
  | n + 1, r => if stands T r [15, 0] then (r, .nil) else ((blockL stmt n (stmt r).1).1, cons (stmt r).2 (blockL stmt n (stmt r).1).2)
def blockP (stmt : Pr) (n : Nat) : Pr := fun r => ((blockL T stmt n (r.opened T [14])).1.shut T 15, listed (blockL T stmt n (r.opened T [14])).2)
def ifP (cond block : Pr) : Pr := fun r =>
  let c := cond r
  let t := block c.1
  if stands T t.1 [8] then ((block (t.1.skips T [8])).1, mk { tag := 11 } c.2 (mk { tag := 18 } t.2 (block (t.1.skips T [8])).2))
  else (t.1, mk { tag := 11 } c.2 (mk { tag := 18 } t.2 .nil))
def stmtOps : List Int := [6, 1, 7, 9, 10, 11]
def stmtP (expr cond block : Pr) : Pr := fun r =>
  let t := took T r stmtOps
  let r1 := r.take T stmtOps
  if t.kind = 6 then setP T expr (took T r1 [1]) true (r1.take T [1])
  else if t.kind = 7 then ifP T cond block r1
  else if t.kind = 9 then ((block (cond r1).1).1, mk { tag := 12 } (cond r1).2 (block (cond r1).1).2)
  else if t.kind = 10 then ((valueP T expr r1).1, mk { tag := 13 } (valueP T expr r1).2 .nil)
  else if t.kind = 11 then ((valueP T expr r1).1, mk { tag := 14 } (valueP T expr r1).2 .nil)
  else if stands T r1 [16] then storeP T expr t r1
  else setP T expr t false r1

/-- All that calls itself, with fuel: 0 a factor, 1 a term, 2 an expression, 3 a comparison, 4 and, 5 or, 6 a block, 7 a statement. -/
def step (n : Nat) (rec : Prs) : Prs := fun s => match s with
  | 0 => factorP T (rec 2) (rec 0) n
  | 1 => chainP T (rec 0) [29, 30, 31] n
  | 2 => chainP T (rec 1) [27, 28] n
  | 3 => compareP T (rec 2)
  | 4 => logicP T (rec 3) 32 n
  | 5 => logicP T (rec 4) 33 n
  | 6 => blockP T (rec 7) n
  | _ => stmtP T (rec 2) (rec 5) (rec 6)
def parse : Nat → Prs
  | 0 => fun s r => (r.fail T.length 1 0, if s < 3 then mk { tag := 0 } .nil .nil else if s < 6 then mk { tag := 7, op := 21 } (mk { tag := 0 } .nil .nil) (mk { tag := 0 } .nil .nil) else if s = 6 then .nil else mk { tag := 13 } (mk { tag := 0 } .nil .nil) .nil)
  | n + 1 => step T n (parse n)

def paramP : Pr := fun r => (r.take T [1], mk { tag := 19, name := (took T r [1]).text, npos := (took T r [1]).pos } .nil .nil)
def arrayP : Pr := fun r =>
  let t := took T r [1]
  let r1 := r.take T [1]
  let n := took T r1 [2]
  let r2 := r1.take T [2]
  (r2.take T [19], mk { tag := 16, name := t.text, npos := t.pos, val := n.value, pos := n.pos } .nil .nil)
def functionP (block : Pr) (n : Nat) : Pr := fun r =>
  let t := took T r [1]
  let r1 := (r.take T [1]).opened T [12]
  let ps := if stands T r1 [1] then listP T (paramP T) n r1 else (r1, .nil)
  let r2 := ps.1.shut T 13
  let ws := if stands T r2 [5] then listP T (relP T) n (r2.skips T [5]) else (r2, .nil)
  let bd := block ws.1
  (bd.1, mk { tag := 17, name := t.text, npos := t.pos } ps.2 (mk { tag := 18 } ws.2 bd.2))
def programL (block : Pr) (m : Nat) : Nat → Rd → Rd × Tr
  | 0, r => (r, .nil)
  | n + 1, r =>
    if stands T r [0] then (r, .nil)
    else
      let t := took T r [3, 4]
      let r1 := r.take T [3, 4]
      if t.kind = 3 then ((programL block m n (arrayP T r1).1).1, cons (arrayP T r1).2 (programL block m n (arrayP T r1).1).2)
      else if t.kind = 4 then ((programL block m n (functionP T block m r1).1).1, cons (functionP T block m r1).2 (programL block m n (functionP T block m r1).1).2)
      else programL block m n r1
def rd0 : Rd := ⟨0, 0, 0, 0⟩
def fuelOf : Nat := T.length * 16 + 16
def programP : Rd × Tr := ((programL T (parse T (fuelOf T) 6) (fuelOf T) (fuelOf T) rd0).1, listed (programL T (parse T (fuelOf T) 6) (fuelOf T) (fuelOf T) rd0).2)
end Go.Proofs.YtikffmloeifkpaaGreatDoor

/- Package grammar: a reader goes on, and comes out as deep as it went in. -/
namespace Go.Proofs.YtikffmloeifkpaaGreatDoor
open Go.RowKit Go.Lib Go.Deep
variable {T : List Tok}

/-- The last word is the end. -/
def Ends (T : List Tok) : Prop := (T.getD (T.length - 1) tok0).kind = 0
/-- From r to r'. -/
structure Adv (T : List Tok) (r r' : Rd) : Prop where
  ge : r.next ≤ r'.next
  lt : r'.next < T.length
  nest : r'.nest = r.nest

theorem Adv.refl {r : Rd} (h : r.next < T.length) : Adv T r r := ⟨Nat.le_refl _, h, rfl⟩
theorem Adv.trans {a b c : Rd} (h : Adv T a b) (k : Adv T b c) : Adv T a c := ⟨Nat.le_trans h.ge k.ge, k.lt, k.nest.trans h.nest⟩

theorem stands_lt (he : Ends T) {r : Rd} (h : r.next < T.length) {ks : List Int} (hs : stands T r ks = true) (h0 : oneOf ks 0 = false) : r.next + 1 < T.length := by
  rcases Nat.lt_or_ge (r.next + 1) T.length with h2 | h2
  · exact h2
  · exfalso
    have e : r.next = T.length - 1 := by omega
    unfold stands tokAt at hs
    rw [e, he, h0] at hs
    cases hs
theorem fail_next (n : Nat) (r : Rd) (c p : Int) : (r.fail n c p).next = n - 1 ∧ (r.fail n c p).nest = r.nest := by unfold Rd.fail; split <;> exact ⟨rfl, rfl⟩
theorem adv_take (he : Ends T) {r : Rd} (h : r.next < T.length) {ks : List Int} (h0 : oneOf ks 0 = false) : Adv T r (r.take T ks) := by
  unfold Rd.take
  by_cases hs : stands T r ks = true
  · rw [if_pos hs]; exact ⟨by show r.next ≤ r.next + 1; omega, stands_lt he h hs h0, rfl⟩
  · rw [if_neg hs]
    have := fail_next T.length r 2 (tokAt T r.next).pos
    exact ⟨by omega, by omega, this.2⟩
theorem adv_skips (he : Ends T) {r : Rd} (h : r.next < T.length) {ks : List Int} (h0 : oneOf ks 0 = false) : Adv T r (r.skips T ks) := by
  unfold Rd.skips
  by_cases hs : stands T r ks = true
  · rw [if_pos hs]; exact ⟨by show r.next ≤ r.next + 1; omega, stands_lt he h hs h0, rfl⟩
  · rw [if_neg hs]; exact Adv.refl h
/-- One deeper. -/
theorem deeper_next {r : Rd} (h : r.next < T.length) (p : Int) : r.next ≤ (r.deeper T.length p).next ∧ (r.deeper T.length p).next < T.length ∧ (r.deeper T.length p).nest = r.nest + 1 := by
  unfold Rd.deeper
  split
  · have := fail_next T.length ⟨r.next, r.nest + 1, r.code, r.pos⟩ 6 p
    exact ⟨by omega, by omega, this.2⟩
  · exact ⟨Nat.le_refl _, h, rfl⟩
theorem opened_next (he : Ends T) {r : Rd} (h : r.next < T.length) {ks : List Int} (h0 : oneOf ks 0 = false) : r.next ≤ (r.opened T ks).next ∧ (r.opened T ks).next < T.length ∧ (r.opened T ks).nest = r.nest + 1 := by
  have h1 := adv_take he h h0
  have h2 := deeper_next h1.lt (took T r ks).pos
  exact ⟨Nat.le_trans h1.ge h2.1, h2.2.1, by unfold Rd.opened; rw [h2.2.2, h1.nest]⟩
/-- Behind what was opened, shut again. -/
theorem adv_shut (he : Ends T) {r a c : Rd} (h1 : r.next ≤ a.next) (h2 : a.nest = r.nest + 1) (h : Adv T a c) {k : Int} (h0 : oneOf [k] 0 = false) : Adv T r (c.shut T k) := by
  have h3 := adv_take he h.lt h0
  exact ⟨Nat.le_trans (Nat.le_trans h1 h.ge) h3.ge, h3.lt, by show (c.take T [k]).nest - 1 = _; rw [h3.nest, h.nest, h2]; omega⟩

/-- All that a part does. -/
def Goes (T : List Tok) (S : Pr) : Prop := ∀ r, r.next < T.length → Adv T r (S r).1

theorem goes_chainL (he : Ends T) {S : Pr} (hS : Goes T S) {ops : List Int} (h0 : oneOf ops 0 = false) : ∀ n r v, r.next < T.length → Adv T r (chainL T S ops n r v).1 := by
  intro n
  induction n with
  | zero => intro r v h; exact Adv.refl h
  | succ n ih =>
    intro r v h
    unfold chainL
    split
    · have a1 := adv_take he h h0
      have a2 := hS _ a1.lt
      exact (a1.trans a2).trans (ih _ _ a2.lt)
    · exact Adv.refl h
theorem goes_chain (he : Ends T) {S : Pr} (hS : Goes T S) {ops : List Int} (h0 : oneOf ops 0 = false) (n : Nat) : Goes T (chainP T S ops n) := fun r h => (hS r h).trans (goes_chainL he hS h0 n _ _ (hS r h).lt)
theorem goes_logicL (he : Ends T) {S : Pr} (hS : Goes T S) {op : Int} (h0 : oneOf [op] 0 = false) : ∀ n r v, r.next < T.length → Adv T r (logicL T S op n r v).1 := by
  intro n
  induction n with
  | zero => intro r v h; exact Adv.refl h
  | succ n ih =>
    intro r v h
    unfold logicL
    split
    · have a1 := adv_skips he h h0
      have a2 := hS _ a1.lt
      exact (a1.trans a2).trans (ih _ _ a2.lt)
    · exact Adv.refl h
theorem goes_logic (he : Ends T) {S : Pr} (hS : Goes T S) {op : Int} (h0 : oneOf [op] 0 = false) (n : Nat) : Goes T (logicP T S op n) := fun r h => (hS r h).trans (goes_logicL he hS h0 n _ _ (hS r h).lt)
theorem goes_compare (he : Ends T) {S : Pr} (hS : Goes T S) : Goes T (compareP T S) := fun r h => by
  have a1 := hS r h
  have a2 := adv_take he a1.lt (show oneOf cmpOps 0 = false by decide)
  exact (a1.trans a2).trans (hS _ a2.lt)
theorem goes_listL (he : Ends T) {S : Pr} (hS : Goes T S) : ∀ n r, r.next < T.length → Adv T r (listL T S n r).1 := by
  intro n
  induction n with
  | zero => intro r h; exact Adv.refl h
  | succ n ih =>
    intro r h
    unfold listL
    split
    · have a1 := adv_skips he h (show oneOf [18] 0 = false by decide)
      have a2 := hS _ a1.lt
      exact (a1.trans a2).trans (ih _ a2.lt)
    · exact Adv.refl h
theorem goes_list (he : Ends T) {S : Pr} (hS : Goes T S) (n : Nat) : Goes T (listP T S n) := fun r h => (hS r h).trans (goes_listL he hS n _ (hS r h).lt)
theorem goes_index (he : Ends T) {S : Pr} (hS : Goes T S) : Goes T (indexP T S) := fun r h => by
  obtain ⟨o1, o2, o3⟩ := opened_next he h (show oneOf [16] 0 = false by decide)
  exact adv_shut he o1 o3 (hS _ o2) (by decide)
theorem goes_args (he : Ends T) {S : Pr} (hS : Goes T S) (n : Nat) : Goes T (argsP T S n) := fun r h => by
  obtain ⟨o1, o2, o3⟩ := opened_next he h (show oneOf [12] 0 = false by decide)
  unfold argsP
  split
  · exact adv_shut he o1 o3 (Adv.refl o2) (by decide)
  · exact adv_shut he o1 o3 (goes_list he hS n _ o2) (by decide)
theorem goes_named (he : Ends T) {S : Pr} (hS : Goes T S) (n : Nat) (t : Tok) : Goes T (namedP T S n t) := fun r h => by
  unfold namedP
  split
  · exact goes_index he hS r h
  · split
    · exact goes_args he hS n r h
    · exact Adv.refl h
theorem goes_factor (he : Ends T) {S F : Pr} (hS : Goes T S) (hF : Goes T F) (n : Nat) : Goes T (factorP T S F n) := fun r h => by
  have a1 := adv_take he h (show oneOf facOps 0 = false by decide)
  obtain ⟨d1, d2, d3⟩ := deeper_next a1.lt (took T r facOps).pos
  unfold factorP
  dsimp only
  split
  · exact a1
  · split
    · exact a1.trans (adv_shut he d1 d3 (hS _ d2) (by decide))
    · split
      · have a3 := hF _ d2
        refine a1.trans ⟨Nat.le_trans d1 a3.ge, a3.lt, ?_⟩
        show (F _).1.nest - 1 = _
        rw [a3.nest, d3]; omega
      · exact a1.trans (goes_named he hS n _ _ a1.lt)
theorem goes_atom (he : Ends T) : Goes T (atomP T) := fun r h => by
  have a1 := adv_take he h (show oneOf [28, 2, 1] 0 = false by decide)
  unfold atomP
  dsimp only
  split
  · exact a1.trans (adv_take he a1.lt (by decide))
  · split <;> exact a1
theorem goes_rel (he : Ends T) : Goes T (relP T) := goes_compare he (goes_atom he)
theorem goes_value (he : Ends T) {S : Pr} (hS : Goes T S) : Goes T (valueP T S) := fun r h => (hS r h).trans (adv_take he (hS r h).lt (by decide))
theorem goes_set (he : Ends T) {S : Pr} (hS : Goes T S) (t : Tok) (q : Bool) : Goes T (setP T S t q) := fun r h => by
  have a1 := adv_take he h (show oneOf [20] 0 = false by decide)
  exact a1.trans (goes_value he hS _ a1.lt)
theorem goes_store (he : Ends T) {S : Pr} (hS : Goes T S) (t : Tok) : Goes T (storeP T S t) := fun r h => by
  have a1 := goes_index he hS r h
  have a2 := adv_take he a1.lt (show oneOf [20] 0 = false by decide)
  exact (a1.trans a2).trans (goes_value he hS _ a2.lt)
theorem goes_blockL {S : Pr} (hS : Goes T S) : ∀ n r, r.next < T.length → Adv T r (blockL T S n r).1 := by
  intro n
  induction n with
  | zero => intro r h; exact Adv.refl h
  | succ n ih =>
    intro r h
    unfold blockL
    split
    · exact Adv.refl h
    · exact (hS r h).trans (ih _ (hS r h).lt)
theorem goes_block (he : Ends T) {S : Pr} (hS : Goes T S) (n : Nat) : Goes T (blockP T S n) := fun r h => by
  obtain ⟨o1, o2, o3⟩ := opened_next he h (show oneOf [14] 0 = false by decide)
  exact adv_shut he o1 o3 (goes_blockL hS n _ o2) (by decide)
theorem goes_if (he : Ends T) {C B : Pr} (hC : Goes T C) (hB : Goes T B) : Goes T (ifP T C B) := fun r h => by
  have a1 := hC r h
  have a2 := hB _ a1.lt
  unfold ifP
  dsimp only
  split
  · have a3 := adv_skips he a2.lt (show oneOf [8] 0 = false by decide)
    exact ((a1.trans a2).trans a3).trans (hB _ a3.lt)
  · exact a1.trans a2
theorem goes_stmt (he : Ends T) {S C B : Pr} (hS : Goes T S) (hC : Goes T C) (hB : Goes T B) : Goes T (stmtP T S C B) := fun r h => by
  have a1 := adv_take he h (show oneOf stmtOps 0 = false by decide)
  unfold stmtP
  dsimp only
  split
  · have a2 := adv_take he a1.lt (show oneOf [1] 0 = false by decide)
    exact (a1.trans a2).trans (goes_set he hS _ _ _ a2.lt)
  split
  · exact a1.trans (goes_if he hC hB _ a1.lt)
  split
  · exact (a1.trans (hC _ a1.lt)).trans (hB _ (hC _ a1.lt).lt)
  split
  · exact a1.trans (goes_value he hS _ a1.lt)
  split
  · exact a1.trans (goes_value he hS _ a1.lt)
  split
  · exact a1.trans (goes_store he hS _ _ a1.lt)
  · exact a1.trans (goes_set he hS _ _ _ a1.lt)
theorem goes_parse (he : Ends T) : ∀ n s, Goes T (parse T n s) := by
  intro n
  induction n with
  | zero =>
    intro s r h
    have := fail_next T.length r 1 0
    exact ⟨by show r.next ≤ (r.fail T.length 1 0).next; omega, by show (r.fail T.length 1 0).next < _; omega, this.2⟩
  | succ n ih =>
    intro s
    show Goes T (step T n (parse T n) s)
    unfold step
    split
    · exact goes_factor he (ih 2) (ih 0) n
    · exact goes_chain he (ih 0) (by decide) n
    · exact goes_chain he (ih 1) (by decide) n
    · exact goes_compare he (ih 2)
    · exact goes_logic he (ih 3) (by decide) n
    · exact goes_logic he (ih 4) (by decide) n
    · exact goes_block he (ih 7) n
    · exact goes_stmt he (ih 2) (ih 5) (ih 6)

/-- Which kinds a part gives. -/
def So (lo hi : Nat) (S : Pr) : Prop := ∀ r, ∃ a x y, (S r).2 = mk a x y ∧ lo ≤ a.tag ∧ a.tag < hi
/-- A list, or none. -/
def SoL (S : Pr) : Prop := ∀ r, (S r).2 = .nil ∨ ∃ a x, (S r).2 = mk a x .nil ∧ a.tag = 20
theorem so_chainL {S : Pr} {ops : List Int} : ∀ n r v, (∃ a x y, v = mk a x y ∧ 0 ≤ a.tag ∧ a.tag < 7) → ∃ a x y, (chainL T S ops n r v).2 = mk a x y ∧ 0 ≤ a.tag ∧ a.tag < 7 := by
  intro n
  induction n with
  | zero => intro r v h; exact h
  | succ n ih =>
    intro r v h
    unfold chainL
    split
    · exact ih _ _ ⟨_, _, _, rfl, by simp, by simp⟩
    · exact h
theorem so_chain {S : Pr} (hS : So 0 7 S) (ops : List Int) (n : Nat) : So 0 7 (chainP T S ops n) := fun r => so_chainL n _ _ (hS r)
theorem so_logicL {S : Pr} {op : Int} : ∀ n r v, (∃ a x y, v = mk a x y ∧ 7 ≤ a.tag ∧ a.tag < 9) → ∃ a x y, (logicL T S op n r v).2 = mk a x y ∧ 7 ≤ a.tag ∧ a.tag < 9 := by
  intro n
  induction n with
  | zero => intro r v h; exact h
  | succ n ih =>
    intro r v h
    unfold logicL
    split
    · exact ih _ _ ⟨_, _, _, rfl, by simp, by simp⟩
    · exact h
theorem so_logic {S : Pr} (hS : So 7 9 S) (op : Int) (n : Nat) : So 7 9 (logicP T S op n) := fun r => so_logicL n _ _ (hS r)
theorem so_compare (S : Pr) : So 7 9 (compareP T S) := fun r => ⟨_, _, _, rfl, by simp, by simp⟩
theorem so_named (E : Pr) (n : Nat) (t : Tok) : So 0 7 (namedP T E n t) := fun r => by
  unfold namedP; split
  · exact ⟨_, _, _, rfl, by simp, by simp⟩
  · split <;> exact ⟨_, _, _, rfl, by simp, by simp⟩
theorem so_factor (E F : Pr) (n : Nat) : So 0 7 (factorP T E F n) := fun r => by
  unfold factorP; dsimp only
  split
  · exact ⟨_, _, _, rfl, by simp, by simp⟩
  split
  · exact ⟨_, _, _, rfl, by simp, by simp⟩
  split
  · exact ⟨_, _, _, rfl, by simp, by simp⟩
  · exact so_named E n _ _
theorem so_atom : So 0 7 (atomP T) := fun r => by
  unfold atomP; dsimp only
  split
  · exact ⟨_, _, _, rfl, by simp, by simp⟩
  split <;> exact ⟨_, _, _, rfl, by simp, by simp⟩
theorem so_if (C B : Pr) : So 9 15 (ifP T C B) := fun r => by
  unfold ifP; dsimp only
  split <;> exact ⟨_, _, _, rfl, by simp, by simp⟩
theorem so_set (E : Pr) (t : Tok) (q : Bool) : So 9 15 (setP T E t q) := fun r => ⟨_, _, _, rfl, by show 9 ≤ 9; omega, by show 9 < 15; omega⟩
theorem so_store (E : Pr) (t : Tok) : So 9 15 (storeP T E t) := fun r => ⟨_, _, _, rfl, by show 9 ≤ 10; omega, by show 10 < 15; omega⟩
theorem so_stmt (E C B : Pr) : So 9 15 (stmtP T E C B) := fun r => by
  unfold stmtP; dsimp only
  split
  · exact so_set E _ _ _
  split
  · exact so_if C B _
  split
  · exact ⟨_, _, _, rfl, by simp, by simp⟩
  split
  · exact ⟨_, _, _, rfl, by simp, by simp⟩
  split
  · exact ⟨_, _, _, rfl, by simp, by simp⟩
  split
  · exact so_store E _ _
  · exact so_set E _ _ _
theorem sol_block (S : Pr) (n : Nat) : SoL (blockP T S n) := fun r => by
  unfold blockP listed; dsimp only
  split
  · exact .inl rfl
  · exact .inr ⟨_, _, rfl, rfl⟩
theorem so_parse : ∀ n s, (s < 3 → So 0 7 (parse T n s)) ∧ (3 ≤ s → s < 6 → So 7 9 (parse T n s)) ∧ (s = 6 → SoL (parse T n s)) ∧ (6 < s → So 9 15 (parse T n s)) := by
  intro n
  induction n with
  | zero =>
    intro s
    refine ⟨fun h r => ?_, fun h1 h2 r => ?_, fun h r => ?_, fun h r => ?_⟩
    · exact ⟨{ tag := 0 }, .nil, .nil, if_pos h, by decide, by decide⟩
    · exact ⟨{ tag := 7, op := 21 }, _, _, by show (if s < 3 then _ else _) = _; rw [if_neg (by omega), if_pos h2], by decide, by decide⟩
    · left; subst h; rfl
    · exact ⟨{ tag := 13 }, _, _, by show (if s < 3 then _ else _) = _; rw [if_neg (by omega), if_neg (by omega), if_neg (by omega)], by decide, by decide⟩
  | succ n ih =>
    intro s
    match s with
    | 0 => exact ⟨fun _ => so_factor _ _ _, fun h => by omega, fun h => by omega, fun h => by omega⟩
    | 1 => exact ⟨fun _ => so_chain ((ih 0).1 (by omega)) _ _, fun h => by omega, fun h => by omega, fun h => by omega⟩
    | 2 => exact ⟨fun _ => so_chain ((ih 1).1 (by omega)) _ _, fun h => by omega, fun h => by omega, fun h => by omega⟩
    | 3 => exact ⟨fun h => by omega, fun _ _ => so_compare _, fun h => by omega, fun h => by omega⟩
    | 4 => exact ⟨fun h => by omega, fun _ _ => so_logic ((ih 3).2.1 (by omega) (by omega)) _ _, fun h => by omega, fun h => by omega⟩
    | 5 => exact ⟨fun h => by omega, fun _ _ => so_logic ((ih 4).2.1 (by omega) (by omega)) _ _, fun h => by omega, fun h => by omega⟩
    | 6 => exact ⟨fun h => by omega, fun _ h => by omega, fun _ => sol_block _ _, fun h => by omega⟩
    | s + 7 => exact ⟨fun h => by omega, fun _ h => by omega, fun h => by omega, fun _ => so_stmt _ _ _⟩

/-- What an interface's value looks like. -/
theorem val_iface {t : Tr} {a : Nd} {x y : Tr} (h : er t = mk a x y) (ha : a.tag < 20) : ∃ u p, valT t = .iface u (.pointer (some p)) := by
  cases t with
  | nil => cases h
  | node b o a' l r =>
    simp only [er, mk, BT.node.injEq] at h
    obtain ⟨_, _, rfl, _⟩ := h
    exact ⟨ityp a'.tag, ⟨b, 0, none⟩, if_neg (by omega)⟩
end Go.Proofs.YtikffmloeifkpaaGreatDoor
