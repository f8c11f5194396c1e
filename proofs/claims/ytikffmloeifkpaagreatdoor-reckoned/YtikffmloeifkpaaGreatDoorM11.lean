/- The program's contracts, part 11: each says what a function of the program does, for every argument that its premises name. -/
import Derived.Test.YtikffmloeifkpaaGreatDoorM10
import Derived.Maps.OwnSet
import Derived.Maps.Views
/- Package names: its maps, as lists of names with numbers. -/
namespace Go.Proofs.YtikffmloeifkpaaGreatDoor
open Go.RowKit Go.Lib Go.Deep Go.Maps Go.ChangeMaps Go.MapKept

abbrev Ents := List (ByteArray × Int)
/-- What a map says of a name. -/
def look (s : ByteArray) : Ents → Option Int
  | [] => none
  | (t, v) :: r => if t = s then some v else look s r
/-- A map's entry, written. -/
def put (s : ByteArray) (v : Int) : Ents → Ents
  | [] => [(s, v)]
  | (t, u) :: r => if t = s then (s, v) :: r else (t, u) :: put s v r

theorem look_put_same (s : ByteArray) (v : Int) (l : Ents) : look s (put s v l) = some v := by
  induction l with
  | nil => simp [put, look]
  | cons p r ih => obtain ⟨t, u⟩ := p; by_cases h : t = s <;> simp [put, look, h, ih]
theorem look_put_other {s t : ByteArray} (h : t ≠ s) (v : Int) (l : Ents) : look t (put s v l) = look t l := by
  induction l with
  | nil => simp [put, look, h.symm]
  | cons p r ih =>
    obtain ⟨x, u⟩ := p
    by_cases h1 : x = s
    · subst h1; simp [put, look, h.symm]
    · by_cases h2 : x = t
      · subst h2; simp [put, look, h1]
      · simp [put, look, h1, h2, ih]
theorem length_put (s : ByteArray) (v : Int) (l : Ents) : (put s v l).length = if (look s l).isSome then l.length else l.length + 1 := by
  induction l with
  | nil => simp [put, look]
  | cons p r ih =>
    obtain ⟨t, u⟩ := p
    by_cases h : t = s
    · simp [put, look, h]
    · simp only [put, look, if_neg h, List.length_cons, ih]
      split <;> rfl

def kl (s : ByteArray) : Lit := .string s.data.toList
theorem kl_inj {s t : ByteArray} (h : s ≠ t) : kl s ≠ kl t := by
  intro e
  apply h
  simp only [kl, Lit.string.injEq] at e
  cases s; cases t
  simpa using Array.ext' e

/-- Block b is a map of at most n entries that says what l does. -/
def Mp (w : World) (b n : Nat) (l : Ents) : Prop := ∃ D : DataW Unit, w.ownsMap Tryz.prog 9 (plainElem Tryz.prog 3) b n D ∧ (∀ s, has D (kl s) = (look s l).isSome) ∧ (∀ s, D.atKey (kl s) (.lit (.int .i64 0)) = .lit (.int .i64 ((look s l).getD 0))) ∧ Maps.size D = l.length

theorem Tryz.zero3 (w : World) : (zeroValue 3).run Tryz.prog w = .ok (.int .i64 0) w := by kernel_rfl
theorem Mp.made (w : World) : Mp (w.alloc (.map #[] 0)) w.heap.size 0 [] :=
  ⟨.map [], World.ownsMap_made w _ _ _, fun _ => rfl, fun _ => rfl, rfl⟩
theorem Mp.lt {w : World} {b n : Nat} {l : Ents} (h : Mp w b n l) : b < w.heap.size := by obtain ⟨D, h1, _⟩ := h; exact h1.lt
theorem Mp.mono {w : World} {b n n' : Nat} {l : Ents} (h : Mp w b n l) (hn : n ≤ n') : Mp w b n' l := by obtain ⟨D, h1, h2⟩ := h; exact ⟨D, h1.mono hn, h2⟩
theorem Mp.same {w w' : World} {b n : Nat} {l : Ents} (h : Mp w b n l) (e : w'.heap[b]? = w.heap[b]?) : Mp w' b n l := by
  obtain ⟨D, ⟨es, clock, hb, r⟩, h2⟩ := h
  exact ⟨D, ⟨es, clock, e.trans hb, r⟩, h2⟩
theorem Mp.ismap {w : World} {b n : Nat} {l : Ents} (h : Mp w b n l) : ∃ es clock, w.heap[b]? = some (.map es clock) := by
  obtain ⟨D, ⟨es, clock, hb, r⟩, h2⟩ := h
  exact ⟨es, clock, hb⟩
theorem Mp.len_le {w : World} {b n : Nat} {l : Ents} (h : Mp w b n l) : l.length ≤ n := by
  obtain ⟨D, h1, _, _, h2⟩ := h
  rw [← h2]; exact h1.size_le
theorem Mp.look_ok {w : World} {b n : Nat} {l : Ents} (h : Mp w b n l) (s : ByteArray) (hs : s.size ≤ maxLen) :
    (Instr.lookup 147 (.map (some b)) (.string s) true).run Tryz.prog w = .ok (.tuple #[.int .i64 ((look s l).getD 0), .bool (look s l).isSome]) w := by
  obtain ⟨D, h1, h2, h3, _⟩ := h
  obtain ⟨v, ps, hrun, hv⟩ := h1.look_ok (string_keyed Tryz.underlying9) Tryz.underlying147 (Tryz.zero3 w) (plainElem_int Tryz.underlying3 (by decide)) (WideMaps.keyOf_string_mk Tryz.underlying9 hs)
  obtain ⟨c, rfl, hc, _⟩ := plainElem_int_inv Tryz.underlying3 hv
  have e := congrArg Prod.fst hc
  have e2 := h3 s
  unfold kl at e2
  rw [e2] at e
  simp only [DataW.lit.injEq, Lit.int.injEq, true_and] at e
  rw [hrun, ← e, ← h2 s]
  rfl
theorem Mp.look {w : World} {b n : Nat} {l : Ents} (h : Mp w b n l) (s : ByteArray) (hs : s.size ≤ maxLen) :
    (Instr.lookup 147 (.map (some b)) (.string s) false).run Tryz.prog w = .ok (.int .i64 ((YtikffmloeifkpaaGreatDoor.look s l).getD 0)) w := by
  obtain ⟨D, h1, h2, h3, _⟩ := h
  obtain ⟨v, ps, hrun, hv⟩ := h1.lookup (string_keyed Tryz.underlying9) Tryz.underlying147 (Tryz.zero3 w) (plainElem_int Tryz.underlying3 (by decide)) (WideMaps.keyOf_string_mk Tryz.underlying9 hs)
  obtain ⟨c, rfl, hc, _⟩ := plainElem_int_inv Tryz.underlying3 hv
  have e := congrArg Prod.fst hc
  have e2 := h3 s
  unfold kl at e2
  rw [e2] at e
  simp only [DataW.lit.injEq, Lit.int.injEq, true_and] at e
  rw [hrun, ← e]
theorem Mp.len {w : World} {b n : Nat} {l : Ents} (h : Mp w b n l) (ty : TypeId) : (Builtin.len_ #[147] ty #[.map (some b)]).run Tryz.prog w = .ok (.int .i64 l.length) w := by
  obtain ⟨D, h1, _, _, h2⟩ := h
  rw [← h2]; exact h1.len Tryz.underlying147 ty
theorem Mp.put {w : World} {b n : Nat} {l : Ents} (h : Mp w b n l) (hn : n < maxLen) (s : ByteArray) (hs : s.size ≤ maxLen) (v : Int) (hv : (Lit.int .i64 v).wf = true) :
    ∃ w', (Instr.mapUpdate 147 (.map (some b)) (.string s) (.int .i64 v)).run Tryz.prog w = .ok () w' ∧ Mp w' b (n + 1) (YtikffmloeifkpaaGreatDoor.put s v l) ∧ w.mapTurned w' b := by
  obtain ⟨D, h1, h2, h3, h4⟩ := h
  obtain ⟨w', hrun, h5, h6⟩ := h1.store (string_keyed Tryz.underlying9) Tryz.underlying147 hn (WideMaps.keyOf_string_mk Tryz.underlying9 hs) (plainElem_int Tryz.underlying3 hv)
  have hk : WideAt.IsKeyLit (kl s) := trivial
  refine ⟨w', hrun, ⟨_, h5, fun t => ?_, fun t => ?_, ?_⟩, h6⟩
  · by_cases ht : t = s
    · subst ht; rw [look_put_same]; exact has_put_same h1.isMap hk _
    · rw [look_put_other ht, ← h2 t]; exact has_put_other (kl_inj ht) _
  · by_cases ht : t = s
    · subst ht; rw [look_put_same]; exact atKey_put_same h1.isMap hk _ _
    · rw [look_put_other ht, ← h3 t]; exact atKey_put_other (kl_inj ht) _ _
  · rw [length_put, ← h2 s, ← h4]; exact size_put (h1.tidy (string_keyed Tryz.underlying9)) _
theorem Mp.clear {w : World} {b n : Nat} {l : Ents} (h : Mp w b n l) : ∃ w', (∀ ty, (Builtin.clear_ #[147] ty #[.map (some b)]).run Tryz.prog w = .ok (.tuple #[]) w') ∧ Mp w' b 0 [] ∧ w.mapTurned w' b := by
  obtain ⟨D, ⟨es, clock, hb, _⟩, _⟩ := h
  refine ⟨setBlock w b (.map #[] clock), fun ty => ?_, ⟨.map [], ⟨#[], clock, heap_setBlock_same hb _, ⟨by simp, MapKept.stamped_empty clock, by simp⟩, Nat.le_refl _, rfl⟩, fun _ => rfl, fun _ => rfl, rfl⟩, ⟨es, clock, #[], clock, hb, rfl⟩⟩
  simp [Builtin.clear_, run_underlying Tryz.underlying147, MapKept.run_getObj_map hb, MapKept.run_setObj_map _ hb, setBlock, Result.andThen]
end Go.Proofs.YtikffmloeifkpaaGreatDoor

/- The tree in memory while its own cells are written: which blocks stay, by their types and their places in the text. -/
namespace Go.Proofs.YtikffmloeifkpaaGreatDoor
open Go.RowKit Go.Lib Go.Deep Go.Maps Go.ChangeMaps Go.MapKept

/-- The types of blocks that hold a tree. -/
def treeTyp0 (t : TypeId) : Prop :=
  t = 364 ∨ t = 361 ∨ t = 395 ∨ t = 450 ∨ t = 400 ∨ t = 402 ∨ t = 405 ∨ t = 271 ∨ t = 409 ∨ t = 328 ∨ t = 331 ∨
  t = 337 ∨ t = 340 ∨ t = 343 ∨ t = 345 ∨ t = 196 ∨ t = 105 ∨ t = 100 ∨ t = 253 ∨ t = 269 ∨ t = 250 ∨ t = 151 ∨ t = 37
/-- And of the rows of arrays and of functions. -/
def treeTyp (t : TypeId) : Prop := treeTyp0 t ∨ t = 192 ∨ t = 106
theorem treeTyp0.to {t : TypeId} (h : treeTyp0 t) : treeTyp t := .inl h

/-- What a call has done to the world: blocks that were ahead of H, and those of the types Q, stay, but for those of type t at a place p of the text where P t p. -/
structure FrX (Q : TypeId → Prop) (H : Nat) (P : TypeId → Int → Prop) (w w' : World) : Prop where
  os : w'.os = w.os
  tape : w'.tape = w.tape
  output : w'.output = w.output
  size : w.heap.size ≤ w'.heap.size
  below : ∀ k, k < H → w'.heap[k]? = w.heap[k]?
  block : ∀ (k : Nat) (cs : Array Value) (t : TypeId), Q t → w.heap[k]? = some (.cells cs t (0, 0)) → ∃ cs', w'.heap[k]? = some (.cells cs' t (0, 0)) ∧ (cs' = cs ∨ (cs'[1]? = cs[1]? ∧ ∃ p : Int, cs[1]? = some (.int .i64 p) ∧ P t p))
abbrev Fr (H : Nat) (P : TypeId → Int → Prop) (w w' : World) : Prop := FrX treeTyp H P w w'
abbrev Fw (H : Nat) (P : TypeId → Int → Prop) (w w' : World) : Prop := FrX treeTyp0 H P w w'

variable {H : Nat} {P Q : TypeId → Int → Prop} {X : TypeId → Prop} {u v w w' : World}
theorem FrX.refl (X : TypeId → Prop) (H : Nat) (P : TypeId → Int → Prop) (w : World) : FrX X H P w w := ⟨rfl, rfl, rfl, Nat.le_refl _, fun _ _ => rfl, fun _ cs _ _ h => ⟨cs, h, .inl rfl⟩⟩
theorem Fr.refl (H : Nat) (P : TypeId → Int → Prop) (w : World) : Fr H P w w := FrX.refl _ _ _ _
theorem Fw.refl (H : Nat) (P : TypeId → Int → Prop) (w : World) : Fw H P w w := FrX.refl _ _ _ _
theorem FrX.weak (h : FrX treeTyp H P w w') : Fw H P w w' := ⟨h.os, h.tape, h.output, h.size, h.below, fun k cs t ht hk => h.block k cs t ht.to hk⟩
theorem FrX.mono (h : FrX X H P w w') (hp : ∀ t p, P t p → Q t p) : FrX X H Q w w' :=
  ⟨h.os, h.tape, h.output, h.size, h.below, fun k cs t ht hk => by
    obtain ⟨cs', h1, h2⟩ := h.block k cs t ht hk
    refine ⟨cs', h1, ?_⟩
    rcases h2 with h2 | ⟨h2, p, h3, h4⟩
    · exact .inl h2
    · exact .inr ⟨h2, p, h3, hp _ _ h4⟩⟩
theorem FrX.low {H' : Nat} (h : FrX X H P w w') (hh : H' ≤ H) : FrX X H' P w w' := ⟨h.os, h.tape, h.output, h.size, fun k hk => h.below k (by omega), h.block⟩
theorem FrX.trans (h : FrX X H P u v) (k : FrX X H P v w) : FrX X H P u w := by
  refine ⟨k.os.trans h.os, k.tape.trans h.tape, k.output.trans h.output, Nat.le_trans h.size k.size, fun i hi => (k.below i hi).trans (h.below i hi), fun i cs t ht hi => ?_⟩
  obtain ⟨c1, h1, s1⟩ := h.block i cs t ht hi
  obtain ⟨c2, h2, s2⟩ := k.block i c1 t ht h1
  refine ⟨c2, h2, ?_⟩
  rcases s1 with rfl | ⟨e1, p, e2, e3⟩
  · exact s2
  · rcases s2 with rfl | ⟨f1, _⟩
    · exact .inr ⟨e1, p, e2, e3⟩
    · exact .inr ⟨f1.trans e1, p, e2, e3⟩
theorem FrX.drewN (h : FrX X H P u w) (n : Nat) : FrX X H P u (w.drewN n) := ⟨h.os, h.tape, h.output, h.size, h.below, h.block⟩
theorem FrX.drew (h : FrX X H P u w) : FrX X H P u w.drew := ⟨h.os, h.tape, h.output, h.size, h.below, h.block⟩
theorem FrX.alloc (h : FrX X H P u w) (o : Obj) (hh : H ≤ w.heap.size) : FrX X H P u (w.alloc o) :=
  h.trans ⟨rfl, rfl, rfl, by simp, fun k hk => Below.heap_alloc _ _ _ (by omega), fun k cs t _ hk => ⟨cs, (Below.heap_alloc _ _ _ (Array.getElem?_eq_some_iff.1 hk).1).trans hk, .inl rfl⟩⟩
/-- A store into a block that holds no tree. -/
theorem FrX.set (h : FrX X H P u w) {k : Nat} (hk : H ≤ k) (hn : ∀ cs t, X t → w.heap[k]? ≠ some (.cells cs t (0, 0))) (o : Nat) (x : Value) : FrX X H P u (w.setCell ⟨k, o, none⟩ x) := by
  refine h.trans ⟨rfl, rfl, rfl, by simp [World.setCell], fun i hi => Below.heap_setCell _ _ _ _ (by show i ≠ k; omega), fun i cs t ht hi => ⟨cs, (Below.heap_setCell _ _ _ _ ?_).trans hi, .inl rfl⟩⟩
  intro e
  replace e : i = k := e
  subst e
  exact hn cs t ht hi
/-- A store into a part of the tree. -/
theorem FrX.write (h : FrX X H P u w) {k o : Nat} {cs : Array Value} {t : TypeId} {p : Int} (hk : w.heap[k]? = some (.cells cs t (0, 0))) (hH : H ≤ k) (ho : o ≠ 1) (h1 : cs[1]? = some (.int .i64 p)) (hp : P t p) (x : Value) : FrX X H P u (w.setCell ⟨k, o, none⟩ x) := by
  refine h.trans ⟨rfl, rfl, rfl, by simp [World.setCell], fun i hi => Below.heap_setCell _ _ _ _ (by show i ≠ k; omega), fun i c2 t2 _ hi => ?_⟩
  by_cases e : i = k
  · subst e
    rw [hk] at hi
    simp only [Option.some.injEq, Obj.cells.injEq] at hi
    obtain ⟨rfl, rfl, _⟩ := hi
    exact ⟨_, heap_set _ hk, .inr ⟨Array.getElem?_setIfInBounds_ne ho, p, h1, hp⟩⟩
  · exact ⟨c2, (Below.heap_setCell _ _ _ _ e).trans hi, .inl rfl⟩
/-- A map has turned. -/
theorem FrX.turned {b : Nat} (h : FrX X H P u w) (hv : H ≤ b) (ht : w.mapTurned w' b) : FrX X H P u w' := by
  obtain ⟨es, cl, es', cl', hb, rfl⟩ := ht
  refine h.trans ⟨rfl, rfl, rfl, by simp [setBlock], fun k hk => heap_setBlock_other hb _ (by omega), fun k cs t _ he => ⟨cs, (heap_setBlock_other hb _ ?_).trans he, .inl rfl⟩⟩
  intro e
  subst e
  rw [hb] at he
  cases he
theorem FrX.same {k : Nat} {cs : Array Value} {t : TypeId} (h : FrX X H P w w') (hk : w.heap[k]? = some (.cells cs t (0, 0))) (ht : X t) (hn : ∀ p : Int, cs[1]? = some (.int .i64 p) → ¬ P t p) : w'.heap[k]? = some (.cells cs t (0, 0)) := by
  obtain ⟨cs', h1, h2⟩ := h.block k cs t ht hk
  rcases h2 with rfl | ⟨_, p, h3, h4⟩
  · exact h1
  · exact absurd h4 (hn p h3)
theorem FrX.at {k : Nat} {t : TypeId} {R : Array Value → Prop} (h : FrX X H P w w') (ha : At w k t R) (ht : X t) (hn : ∀ cs, R cs → ∀ p : Int, cs[1]? = some (.int .i64 p) → ¬ P t p) : At w' k t R := by
  obtain ⟨cs, hc, hR⟩ := ha
  exact ⟨cs, h.same hc ht (hn cs hR), hR⟩

/-- Which types of blocks have a place of the text in their second cell. -/
def posTyp (t : TypeId) : Prop := t = 361 ∨ t = 395 ∨ t = 450 ∨ t = 405 ∨ t = 328 ∨ t = 331 ∨ t = 196 ∨ t = 105 ∨ t = 100
theorem rowTyp_tree (l : Tr) (hl : ∃ b o a e r, l = .node b o a e r ∧ ∃ b o a x y, e = BT.node b o a x y) : treeTyp0 (rowTyp l) := by
  obtain ⟨b, o, a, e, r, rfl, b2, o2, a2, x, y, rfl⟩ := hl
  unfold rowTyp
  dsimp only
  repeat' split
  all_goals (unfold treeTyp0; simp)
theorem rowTyp_name {b o : Nat} {a : Nd} {e r : Tr} (h : posTyp (rowTyp (.node b o a e r))) : ∃ b o a x y, e = BT.node b o a x y ∧ a.tag = 19 := by
  cases e with
  | nil => exact absurd h (by unfold rowTyp posTyp; simp)
  | node b2 o2 a2 x y =>
    refine ⟨b2, o2, a2, x, y, rfl, ?_⟩
    unfold rowTyp at h
    dsimp only at h
    revert h
    repeat' split
    all_goals first | (intro _; assumption) | (intro h; exact absurd h (by unfold posTyp; simp))

/-- A part's own place. -/
def po (a : Nd) : List Int := if a.tag = 6 then [a.pos] else if named a.tag then [a.npos] else []
theorem po_ps {b o : Nat} {a : Nd} {l r : Tr} {p : Int} (h : p ∈ po a) : p ∈ ps (.node b o a l r) := by
  unfold po at h
  unfold ps
  split
  · rename_i h6
    rw [if_pos h6] at h
    simp only [List.mem_singleton] at h
    subst h; simp
  · rename_i h6
    rw [if_neg h6] at h
    split
    · rename_i hn
      rw [if_pos hn] at h
      simp only [List.mem_singleton] at h
      subst h; simp
    · rename_i hn
      rw [if_neg hn] at h
      cases h
/-- A part stays where its own place is not written. -/
theorem OwnN.frX {k : Nat} {a : Nd} {l r : Tr} (hX : ∀ t, treeTyp0 t → X t) (hfr : FrX X H P w w') (hP : ∀ t p, P t p → posTyp t) (h : OwnN a.tag w k a l r) (hs : ∀ p ∈ po a, ∀ t, ¬ P t p)
    (h20 : a.tag = 20 → (∃ b o a2 e r, l = .node b o a2 e r ∧ a2.tag = 15 ∧ ∃ b o a x y, e = BT.node b o a x y) ∧ ∀ p ∈ ps l, ¬ P 100 p) : OwnN a.tag w' k a l r := by
  have none_ : ∀ {t : TypeId} {R : Array Value → Prop}, At w k t R → treeTyp0 t → ¬ posTyp t → At w' k t R := fun ha ht hn => hfr.at ha (hX _ ht) (fun _ _ p _ hp => hn (hP _ _ hp))
  have nam : ∀ {t : TypeId} {R : Array Value → Prop}, At w k t R → treeTyp0 t → named a.tag = true → a.tag ≠ 6 → (∀ cs, R cs → Nam cs 0 a) → At w' k t R := by
    intro t R ha ht hn h6 hR
    refine hfr.at ha (hX _ ht) (fun cs hc p hp => ?_)
    rw [(hR cs hc).2.1] at hp
    simp only [Option.some.injEq, Value.int.injEq, true_and] at hp
    subst hp
    refine hs _ ?_ t
    unfold po
    rw [if_neg h6, if_pos hn]
    exact List.mem_cons_self
  generalize hq : a.tag = n at *
  match n, h with
  | 0, h => exact none_ h (by simp [treeTyp0]) (by simp [posTyp])
  | 1, h => exact nam h (by simp [treeTyp0]) rfl (by decide) (fun _ h => h)
  | 2, h => exact nam h (by simp [treeTyp0]) rfl (by decide) (fun _ h => h.1)
  | 3, h => exact nam h (by simp [treeTyp0]) rfl (by decide) (fun _ h => h.1)
  | 4, h => exact none_ h (by simp [treeTyp0]) (by simp [posTyp])
  | 5, h => exact none_ h (by simp [treeTyp0]) (by simp [posTyp])
  | 6, h =>
    refine hfr.at h (hX _ (by simp [treeTyp0])) (fun cs hc p hp => ?_)
    rw [hc.2.1] at hp
    simp only [Option.some.injEq, Value.int.injEq, true_and] at hp
    subst hp
    refine hs _ ?_ _
    unfold po
    rw [if_pos hq]
    exact List.mem_cons_self
  | 7, h => exact none_ h (by simp [treeTyp0]) (by simp [posTyp])
  | 8, h => exact none_ h (by simp [treeTyp0]) (by simp [posTyp])
  | 9, h => exact nam h (by simp [treeTyp0]) rfl (by decide) (fun _ h => h.1)
  | 10, h => exact nam h (by simp [treeTyp0]) rfl (by decide) (fun _ h => h.1)
  | 11, h => exact none_ h (by simp [treeTyp0]) (by simp [posTyp])
  | 12, h => exact none_ h (by simp [treeTyp0]) (by simp [posTyp])
  | 13, h => exact none_ h (by simp [treeTyp0]) (by simp [posTyp])
  | 14, h => exact none_ h (by simp [treeTyp0]) (by simp [posTyp])
  | 16, h => exact nam h (by simp [treeTyp0]) rfl (by decide) (fun _ h => h.1)
  | 17, h => exact nam h (by simp [treeTyp0]) rfl (by decide) (fun _ h => h.1)
  | 20, h =>
    obtain ⟨⟨b2, o2, a2, e, q, rfl, h15, he⟩, hnam⟩ := h20 rfl
    refine ⟨h.1, hfr.at h.2 (hX _ (rowTyp_tree _ ⟨_, _, _, _, _, rfl, he⟩)) (fun cs hc p hp hPp => ?_)⟩
    obtain ⟨b3, o3, a3, x, y, rfl, h19⟩ := rowTyp_name (hP _ _ hPp)
    have h1 : (if a3.tag = 19 then Nam cs (0 * 3) a3 else if a3.tag = 7 then _ else _) := hc.1
    rw [if_pos h19] at h1
    rw [h1.2.1] at hp
    simp only [Option.some.injEq, Value.int.injEq, true_and] at hp
    subst hp
    have hty : rowTyp (.node b2 o2 a2 (.node b3 o3 a3 x y) q) = 100 := if_pos h19
    rw [hty] at hPp
    refine hnam _ ?_ hPp
    have e2 : ps (.node b2 o2 a2 (.node b3 o3 a3 x y) q) = ps (.node b3 o3 a3 x y) ++ ps q := by
      show (if a2.tag = 6 then _ else if named a2.tag then _ else _) = _
      rw [h15]; rfl
    have e3 : ps (.node b3 o3 a3 x y) = a3.npos :: (ps x ++ ps y) := by
      show (if a3.tag = 6 then _ else if named a3.tag then _ else _) = _
      rw [h19]; rfl
    rw [e2, e3]
    simp
  | 15, _ | 18, _ | 19, _ => trivial
  | n + 21, _ => trivial

theorem OwnN.fr {k : Nat} {a : Nd} {l r : Tr} (hfr : Fr H P w w') (hP : ∀ t p, P t p → posTyp t) (h : OwnN a.tag w k a l r) (hs : ∀ p ∈ po a, ∀ t, ¬ P t p)
    (h20 : a.tag = 20 → (∃ b o a2 e r, l = .node b o a2 e r ∧ a2.tag = 15 ∧ ∃ b o a x y, e = BT.node b o a x y) ∧ ∀ p ∈ ps l, ¬ P 100 p) : OwnN a.tag w' k a l r := OwnN.frX (fun _ h => h.to) hfr hP h hs h20
theorem OwnN.fw {k : Nat} {a : Nd} {l r : Tr} (hfr : Fw H P w w') (hP : ∀ t p, P t p → posTyp t) (h : OwnN a.tag w k a l r) (hs : ∀ p ∈ po a, ∀ t, ¬ P t p)
    (h20 : a.tag = 20 → (∃ b o a2 e r, l = .node b o a2 e r ∧ a2.tag = 15 ∧ ∃ b o a x y, e = BT.node b o a x y) ∧ ∀ p ∈ ps l, ¬ P 100 p) : OwnN a.tag w' k a l r := OwnN.frX (fun _ h => h) hfr hP h hs h20

theorem ps_node (b o : Nat) (a : Nd) (l r : Tr) : ps (.node b o a l r) = ps (.node 0 0 a l r) := rfl
theorem ps_left {b o : Nat} {a : Nd} {l r : Tr} {p : Int} (h : p ∈ ps l) : p ∈ ps (.node b o a l r) := by
  unfold ps; split
  · exact List.mem_append_left _ h
  · split
    · exact List.mem_cons_of_mem _ (List.mem_append_left _ h)
    · exact List.mem_append_left _ h
theorem ps_right {b o : Nat} {a : Nd} {l r : Tr} {p : Int} (h : p ∈ ps r) : p ∈ ps (.node b o a l r) := by
  unfold ps; split
  · exact List.mem_append_right _ (List.mem_cons_of_mem _ h)
  · split
    · exact List.mem_cons_of_mem _ (List.mem_append_right _ h)
    · exact List.mem_append_right _ h

/-- Lists are lists of parts. -/
theorem Ws.list {s b o : Nat} {a : Nd} {l r : Tr} (h : Ws s (.node b o a l r)) (ht : a.tag = 20) (hl : l ≠ .nil) : ∃ b o a2 e q, l = .node b o a2 e q ∧ a2.tag = 15 ∧ ∃ b o a x y, e = BT.node b o a x y := by
  unfold Ws at h
  obtain ⟨_, _, h⟩ := h
  have hs : ∃ k, (k = 3 ∨ k = 4 ∨ k = 5 ∨ k = 6 ∨ k = 8) ∧ sig s a.tag = some (10 + k, 99) := by
    rw [ht] at h ⊢
    unfold sig at h ⊢
    by_cases h0 : s = 0
    · subst h0; simp at h
    by_cases h1 : s = 1
    · subst h1; simp at h
    by_cases h2 : s = 2
    · subst h2; simp at h
    by_cases h9 : s = 9
    · subst h9; simp at h
    by_cases hk : s = 3 ∨ s = 4 ∨ s = 5 ∨ s = 6 ∨ s = 8
    · exact ⟨s, hk, by simp [h0, h1, h2, h9, hk]⟩
    · exfalso
      simp [h0, h1, h2, h9, hk] at h
  obtain ⟨k, hk, e⟩ := hs
  rw [e] at h
  obtain ⟨h1, _⟩ := h
  cases l with
  | nil => exact absurd rfl hl
  | node b2 o2 a2 e2 q =>
    refine ⟨b2, o2, a2, e2, q, rfl, ?_⟩
    unfold Ws at h1
    obtain ⟨_, _, h1⟩ := h1
    have hn : ∀ z, z = 0 ∨ z = 2 ∨ z = 20 ∨ z = 22 ∨ z = 7 → Ws z e2 → ∃ b o a x y, e2 = BT.node b o a x y := by
      intro z hz hw
      cases e2 with
      | nil => exact absurd hw (by unfold Ws nilOk; omega)
      | node b o a x y => exact ⟨_, _, _, _, _, rfl⟩
    by_cases h15 : a2.tag = 15
    · refine ⟨h15, ?_⟩
      rw [h15] at h1
      rcases hk with rfl | rfl | rfl | rfl | rfl
      · exact hn 0 (by omega) h1.1
      · exact hn 2 (by omega) h1.1
      · exact hn 20 (by omega) h1.1
      · exact hn 22 (by omega) h1.1
      · exact hn 7 (by omega) h1.1
    · exfalso
      rcases hk with rfl | rfl | rfl | rfl | rfl <;> simp [sig, h15] at h1
theorem Ws.parts {s b o : Nat} {a : Nd} {l r : Tr} (h : Ws s (.node b o a l r)) : OkA a ∧ ∃ x y, sig s a.tag = some (x, y) ∧ Ws x l ∧ Ws y r := by
  unfold Ws at h
  refine ⟨h.1, ?_⟩
  have h2 := h.2.2
  cases hs : sig s a.tag with
  | none => rw [hs] at h2; exact absurd h2 id
  | some p => rw [hs] at h2; exact ⟨p.1, p.2, rfl, h2.1, h2.2⟩

theorem IsT.frX (hX : ∀ t, treeTyp0 t → X t) (hfr : FrX X H P w w') (hP : ∀ t p, P t p → posTyp t) : ∀ {t : Tr} {s : Nat}, Ws s t → IsT w t → (∀ p ∈ ps t, ∀ ty, ¬ P ty p) → IsT w' t := by
  intro t
  induction t with
  | nil => intro _ _ _ _; trivial
  | node k o a l r ihl ihr =>
    intro s hw h hs
    obtain ⟨_, x, y, _, hx, hy⟩ := hw.parts
    refine ⟨ihl hx h.1 (fun p hp => hs p (ps_left hp)), ihr hy h.2.1 (fun p hp => hs p (ps_right hp)), ?_⟩
    have ho := h.2.2
    refine OwnN.frX hX hfr hP ho (fun p hp => hs p (po_ps hp)) (fun h20 => ⟨hw.list h20 ?_, fun p hp => hs p (ps_left hp) _⟩)
    unfold Own at ho
    rw [h20] at ho
    exact ho.1
theorem IsT.fr (hfr : Fr H P w w') (hP : ∀ t p, P t p → posTyp t) {t : Tr} {s : Nat} (hw : Ws s t) (hi : IsT w t) (hs : ∀ p ∈ ps t, ∀ ty, ¬ P ty p) : IsT w' t := IsT.frX (fun _ h => h.to) hfr hP hw hi hs
theorem IsT.fw (hfr : Fw H P w w') (hP : ∀ t p, P t p → posTyp t) {t : Tr} {s : Nat} (hw : Ws s t) (hi : IsT w t) (hs : ∀ p ∈ ps t, ∀ ty, ¬ P ty p) : IsT w' t := IsT.frX (fun _ h => h) hfr hP hw hi hs

/-- The same shape: what parts mean may differ. -/
def Sh : Tr → Tr → Prop
  | .nil, .nil => True
  | .node b o a l r, .node b' o' a' l' r' => b' = b ∧ o' = o ∧ a'.tag = a.tag ∧ a'.name = a.name ∧ a'.npos = a.npos ∧ a'.pos = a.pos ∧ a'.op = a.op ∧ a'.flag = a.flag ∧ (a.tag = 19 → a'.which = a.which) ∧ (a.tag ≠ 17 → a'.val = a.val) ∧ Sh l l' ∧ Sh r r'
  | _, _ => False
theorem Sh.refl : ∀ t : Tr, Sh t t := by
  intro t
  induction t with
  | nil => trivial
  | node b o a l r ihl ihr => exact ⟨rfl, rfl, rfl, rfl, rfl, rfl, rfl, rfl, fun _ => rfl, fun _ => rfl, ihl, ihr⟩
theorem Sh.lenL : ∀ {t t' : Tr}, Sh t t' → lenL t' = lenL t := by
  intro t
  induction t with
  | nil => intro t' h; cases t' with
    | nil => rfl
    | node => exact absurd h id
  | node b o a l r _ ihr => intro t' h; cases t' with
    | nil => exact absurd h id
    | node b' o' a' l' r' => simp only [YtikffmloeifkpaaGreatDoor.lenL]; rw [ihr h.2.2.2.2.2.2.2.2.2.2.2]
theorem Sh.val {t t' : Tr} (h : Sh t t') : valT t' = valT t := by
  cases t <;> cases t'
  · rfl
  · exact absurd h id
  · exact absurd h id
  · obtain ⟨rfl, rfl, h3, _, _, _, _, _, _, _, hl, _⟩ := h
    unfold valT
    dsimp only
    rw [h3, hl.lenL]
theorem Sh.ptr {t t' : Tr} (h : Sh t t') : ptrT t' = ptrT t := by
  cases t <;> cases t'
  · rfl
  · exact absurd h id
  · exact absurd h id
  · obtain ⟨rfl, _⟩ := h
    rfl
theorem Sh.nil_iff {t t' : Tr} (h : Sh t t') : t' = .nil ↔ t = .nil := by
  cases t <;> cases t'
  · simp
  · exact absurd h id
  · exact absurd h id
  · simp
theorem Sh.rowTyp {t t' : Tr} (h : Sh t t') : rowTyp t' = rowTyp t := by
  cases t <;> cases t'
  · rfl
  · exact absurd h id
  · exact absurd h id
  · rename_i b o a l r b' o' a' l' r'
    have hl := h.2.2.2.2.2.2.2.2.2.2.1
    cases l <;> cases l'
    · rfl
    · exact absurd hl id
    · exact absurd hl id
    · unfold YtikffmloeifkpaaGreatDoor.rowTyp
      dsimp only
      rw [hl.2.2.1]
theorem Sh.rowOk {cs : Array Value} : ∀ {t t' : Tr} {o : Nat}, Sh t t' → rowOk cs o t → rowOk cs o t' := by
  intro t
  induction t with
  | nil => intro t' o h _; cases t' with
    | nil => trivial
    | node => exact absurd h id
  | node b o1 a l r _ ihr => intro t' o h hr; cases t' with
    | nil => exact absurd h id
    | node b' o' a' l' r' =>
      refine ⟨?_, ihr h.2.2.2.2.2.2.2.2.2.2.2 hr.2⟩
      have hl := h.2.2.2.2.2.2.2.2.2.2.1
      have h1 := hr.1
      cases l with
      | nil => exact absurd h1 id
      | node b2 o2 a2 x y =>
        cases l' with
        | nil => exact absurd hl id
        | node b3 o3 a3 x3 y3 =>
          have hv := hl.val
          have hp := hl.ptr
          obtain ⟨rfl, rfl, ht, hn, hnp, _, _, _, hwh, _⟩ := hl
          show (if a3.tag = 19 then Nam cs (o * 3) a3 else if a3.tag = 7 then cs[o]? = some (ptrT _) else cs[o]? = some (valT _))
          replace h1 : (if a2.tag = 19 then Nam cs (o * 3) a2 else if a2.tag = 7 then cs[o]? = some (ptrT _) else cs[o]? = some (valT _)) := h1
          rw [ht]
          split
          · rename_i h19
            rw [if_pos h19] at h1
            exact ⟨by rw [hn]; exact h1.1, by rw [hnp]; exact h1.2.1, by rw [hwh h19]; exact h1.2.2⟩
          · rename_i h19
            rw [if_neg h19] at h1
            split
            · rename_i h7
              rw [if_pos h7] at h1
              rw [hp]; exact h1
            · rename_i h7
              rw [if_neg h7] at h1
              rw [hv]; exact h1
theorem Sh.node {t t' : Tr} (h : Sh t t') {b o : Nat} {a : Nd} {p q : Tr} (e : t = .node b o a p q) : ∃ a' p' q', t' = .node b o a' p' q' ∧ Sh p p' ∧ Sh q q' := by
  subst e
  cases t' with
  | nil => exact absurd h id
  | node b' o' a' p' q' =>
    obtain ⟨rfl, rfl, _, _, _, _, _, _, _, _, h1, h2⟩ := h
    exact ⟨_, _, _, rfl, h1, h2⟩
theorem OwnN.sh {n b : Nat} {w : World} {a : Nd} {l r l' r' : Tr} (h : OwnN n w b a l r) (hl : Sh l l') (hr : Sh r r') : OwnN n w b a l' r' := by
  have vl := hl.val
  have vr := hr.val
  match n, h with
  | 0, h => exact h
  | 1, h => exact h
  | 2, h => unfold OwnN at h ⊢; rw [vl]; exact h
  | 3, h => unfold OwnN at h ⊢; rw [vl]; exact h
  | 4, h => unfold OwnN at h ⊢; rw [vl]; exact h
  | 5, h => unfold OwnN at h ⊢; rw [vl]; exact h
  | 6, h => unfold OwnN at h ⊢; rw [vl, vr]; exact h
  | 7, h => unfold OwnN at h ⊢; rw [vl, vr]; exact h
  | 8, h => unfold OwnN at h ⊢; rw [vl, vr]; exact h
  | 9, h => unfold OwnN at h ⊢; rw [vl]; exact h
  | 10, h => unfold OwnN at h ⊢; rw [vl, vr]; exact h
  | 11, h =>
    obtain ⟨cs, hc, h0, x, y, z, p, q, e, h1, h2⟩ := h
    obtain ⟨a', p', q', e', hp, hq⟩ := hr.node e
    exact ⟨cs, hc, by rw [vl]; exact h0, x, y, a', p', q', e', by rw [hp.val]; exact h1, by rw [hq.val]; exact h2⟩
  | 12, h => unfold OwnN at h ⊢; rw [vl, vr]; exact h
  | 13, h => unfold OwnN at h ⊢; rw [vl]; exact h
  | 14, h => unfold OwnN at h ⊢; rw [vl]; exact h
  | 16, h => exact h
  | 17, h =>
    obtain ⟨cs, hc, hn, h0, x, y, z, p, q, e, h1, h2, h3⟩ := h
    obtain ⟨a', p', q', e', hp, hq⟩ := hr.node e
    exact ⟨cs, hc, hn, by rw [vl]; exact h0, x, y, a', p', q', e', by rw [hp.val]; exact h1, by rw [hq.val]; exact h2, h3⟩
  | 20, h =>
    obtain ⟨hne, cs, hc, hk⟩ := h
    exact ⟨fun e => hne (hl.nil_iff.1 e), cs, by rw [hl.rowTyp]; exact hc, hl.rowOk hk⟩
  | 15, _ | 18, _ | 19, _ => trivial
  | n + 21, _ => trivial
theorem Sh.ps : ∀ {t t' : Tr}, Sh t t' → ps t' = ps t := by
  intro t
  induction t with
  | nil => intro t' h; cases t' with
    | nil => rfl
    | node => exact absurd h id
  | node b o a l r ihl ihr => intro t' h; cases t' with
    | nil => exact absurd h id
    | node b' o' a' l' r' =>
      obtain ⟨_, _, ht, _, hn, hp, _, _, _, _, h1, h2⟩ := h
      unfold YtikffmloeifkpaaGreatDoor.ps
      rw [ht, hn, hp, ihl h1, ihr h2]
theorem Sh.trans : ∀ {t u v : Tr}, Sh t u → Sh u v → Sh t v := by
  intro t
  induction t with
  | nil => intro u v h k; cases u <;> cases v
           · trivial
           · exact k
           · exact absurd h id
           · exact absurd h id
  | node b o a l r ihl ihr =>
    intro u v h k
    cases u with
    | nil => exact absurd h id
    | node b1 o1 a1 l1 r1 =>
      cases v with
      | nil => exact absurd k id
      | node b2 o2 a2 l2 r2 =>
        obtain ⟨h1, h2, h3, h4, h5, h6, h7, h8, h9, h10, hl, hr⟩ := h
        obtain ⟨k1, k2, k3, k4, k5, k6, k7, k8, k9, k10, kl, kr⟩ := k
        exact ⟨k1.trans h1, k2.trans h2, k3.trans h3, k4.trans h4, k5.trans h5, k6.trans h6, k7.trans h7, k8.trans h8, fun e => (k9 (h3.trans e)).trans (h9 e), fun e => (k10 (fun x => e (h3.symm.trans x))).trans (h10 e), ihl hl kl, ihr hr kr⟩
theorem OkA.sh {a a' : Nd} (h : OkA a) (ht : a'.tag = a.tag) (hn : a'.name = a.name) (ho : a'.op = a.op) (hv : a.tag ≠ 17 → a'.val = a.val) : OkA a' :=
  ⟨by rw [hn]; exact h.name, fun h1 => by rw [hv (by omega)]; exact h.val (by omega), fun h1 => by rw [hv (by omega)]; exact h.val0 (by omega), fun h1 => by rw [ho]; exact h.op6 (by omega), fun h1 => by rw [ho]; exact h.op7 (by omega), fun h1 => by rw [ho]; exact h.op8 (by omega)⟩
theorem Sh.ws : ∀ {t t' : Tr} {s : Nat}, Sh t t' → Ws s t → Ws s t' := by
  intro t
  induction t with
  | nil => intro t' s h hw; cases t' with
    | nil => exact hw
    | node => exact absurd h id
  | node b o a l r ihl ihr => intro t' s h hw; cases t' with
    | nil => exact absurd h id
    | node b' o' a' l' r' =>
      obtain ⟨_, _, ht, hn, _, _, hop, _, _, hv, h1, h2⟩ := h
      obtain ⟨hok, x, y, hs, hl, hr⟩ := hw.parts
      exact Ws.of20 (x := x) (y := y) (by rw [ht]; exact hs) (hok.sh ht hn hop hv) (fun e => by rw [h1.lenL]; exact hw.len (ht.symm.trans e)) (ihl h1 hl) (ihr h2 hr)
end Go.Proofs.YtikffmloeifkpaaGreatDoor

/- Package names: the resolver's state, its first fault. -/
namespace Go.Proofs.YtikffmloeifkpaaGreatDoor
open Go.RowKit Go.Lib Go.Deep Go.ChangeMaps Go.MapKept

/-- The variables that are there; the fault. -/
structure Rs where
  vars : Ents
  code : Int
  pos : Int
def Rs.fail (s : Rs) (c p : Int) : Rs := if s.code = 0 then ⟨s.vars, c, p⟩ else s

def rsCells (pb fb vb : Nat) (s : Rs) : Array Value := #[.pointer (some ⟨pb, 0, none⟩), .map (some fb), .map (some vb), .int .i64 s.code, .int .i64 s.pos]
/-- The resolver in block rb, its maps in fb and vb, the program in pb. -/
structure RsW (H pb rb fb vb : Nat) (pc : Array Value) (F : Ents) (s : Rs) (w : World) : Prop where
  blk : w.heap[rb]? = some (.cells (rsCells pb fb vb s) 149 (0, 0))
  prog : w.heap[pb]? = some (.cells pc 111 (0, 0))
  first : Mp w fb F.length F
  vars : Mp w vb s.vars.length s.vars
  rge : H ≤ rb
  vge : H ≤ vb
  ne : fb ≠ vb

/-- No place of the text. -/
def F0 : TypeId → Int → Prop := fun _ _ => False
variable {H pb rb fb vb : Nat} {pc : Array Value} {F : Ents} {s : Rs} {w w' : World} {P : TypeId → Int → Prop}
theorem RsW.cell (h : RsW H pb rb fb vb pc F s w) (o : Nat) : w.cell? ⟨rb, o, none⟩ = (rsCells pb fb vb s)[o]? := cell_of_row _ _ _ _ _ _ h.blk
theorem RsW.froz (h : RsW H pb rb fb vb pc F s w) (o : Nat) : w.frozen? ⟨rb, o, none⟩ = false := by simp [World.frozen?, h.blk]
theorem RsW.nomap (h : RsW H pb rb fb vb pc F s w) : ∀ es cl, w.heap[rb]? ≠ some (.map es cl) := fun es cl e => by rw [h.blk] at e; cases e
theorem RsW.notree (h : RsW H pb rb fb vb pc F s w) : ∀ cs t, treeTyp t → w.heap[rb]? ≠ some (.cells cs t (0, 0)) := fun cs t ht e => by
  rw [h.blk] at e
  simp only [Option.some.injEq, Obj.cells.injEq] at e
  rw [← e.2.1] at ht
  exact absurd ht (by unfold treeTyp treeTyp0; decide)
theorem RsW.fne (h : RsW H pb rb fb vb pc F s w) : fb ≠ rb := by
  obtain ⟨es, cl, e⟩ := h.first.ismap
  intro x; subst x
  exact h.nomap es cl e
theorem RsW.vne (h : RsW H pb rb fb vb pc F s w) : vb ≠ rb := by
  obtain ⟨es, cl, e⟩ := h.vars.ismap
  intro x; subst x
  exact h.nomap es cl e
theorem RsW.pne (h : RsW H pb rb fb vb pc F s w) : pb ≠ rb := by
  intro x
  have h1 := h.prog
  rw [x, h.blk] at h1
  simp at h1
theorem RsW.pvne (h : RsW H pb rb fb vb pc F s w) : pb ≠ vb := by
  obtain ⟨es, cl, e⟩ := h.vars.ismap
  intro x; subst x
  rw [h.prog] at e
  cases e
theorem RsW.drewN (h : RsW H pb rb fb vb pc F s w) (n : Nat) : RsW H pb rb fb vb pc F s (w.drewN n) := ⟨h.blk, h.prog, h.first.same rfl, h.vars.same rfl, h.rge, h.vge, h.ne⟩
theorem RsW.drew (h : RsW H pb rb fb vb pc F s w) : RsW H pb rb fb vb pc F s w.drew := ⟨h.blk, h.prog, h.first.same rfl, h.vars.same rfl, h.rge, h.vge, h.ne⟩
theorem RsW.write (h : RsW H pb rb fb vb pc F s w) (o : Nat) (v : Value) {s' : Rs} (hc : (rsCells pb fb vb s).setIfInBounds o v = rsCells pb fb vb s') (hv : s'.vars = s.vars) : RsW H pb rb fb vb pc F s' (w.setCell ⟨rb, o, none⟩ v) :=
  ⟨by rw [heap_set v h.blk, hc], (Below.heap_setCell _ _ _ _ h.pne).trans h.prog, h.first.same (Below.heap_setCell _ _ _ _ h.fne), by rw [hv]; exact h.vars.same (Below.heap_setCell _ _ _ _ h.vne), h.rge, h.vge, h.ne⟩
theorem RsW.which (h : RsW H pb rb fb vb pc F s w) {k o : Nat} {cs : Array Value} {t : TypeId} (hk : w.heap[k]? = some (.cells cs t (0, 0))) (ht : treeTyp t) (v : Value) : RsW H pb rb fb vb pc F s (w.setCell ⟨k, o, none⟩ v) := by
  have h1 : rb ≠ k := fun e => h.notree cs t ht (by rw [e]; exact hk)
  have h2 : pb ≠ k := by
    intro e
    rw [← e, h.prog] at hk
    simp only [Option.some.injEq, Obj.cells.injEq] at hk
    rw [← hk.2.1] at ht
    exact absurd ht (by unfold treeTyp treeTyp0; decide)
  have hm : ∀ b n l, Mp w b n l → b ≠ k := by
    intro b n l hm e
    obtain ⟨es, cl, e2⟩ := hm.ismap
    rw [e, hk] at e2
    cases e2
  exact ⟨(Below.heap_setCell _ _ _ _ h1).trans h.blk, (Below.heap_setCell _ _ _ _ h2).trans h.prog, h.first.same (Below.heap_setCell _ _ _ _ (hm _ _ _ h.first)), h.vars.same (Below.heap_setCell _ _ _ _ (hm _ _ _ h.vars)), h.rge, h.vge, h.ne⟩
theorem Mp.tight {w : World} {b n : Nat} {l : Ents} (h : Mp w b n l) : Mp w b l.length l := by
  obtain ⟨D, ⟨es, clock, hb, F, hs, rfl⟩, h2, h3, h4⟩ := h
  refine ⟨_, ⟨es, clock, hb, F, ?_, rfl⟩, h2, h3, h4⟩
  rw [← h4]
  simp [Maps.size, length_sorted]
theorem RsW.turned (h : RsW H pb rb fb vb pc F s w) {n : Nat} {l : Ents} (hl : Mp w' vb n l) (ht : w.mapTurned w' vb) : RsW H pb rb fb vb pc F ⟨l, s.code, s.pos⟩ w' := by
  obtain ⟨es, cl, es', cl', hb, rfl⟩ := ht
  exact ⟨(heap_setBlock_other hb _ h.vne.symm).trans h.blk, (heap_setBlock_other hb _ h.pvne).trans h.prog, h.first.same (heap_setBlock_other hb _ h.ne), hl.tight, h.rge, h.vge, h.ne⟩

/-- A cell that holds a number, written. -/
def Wr (k o : Nat) (f : Int → Int) (w w' : World) : Prop := ∀ cs t q, w.heap[k]? = some (.cells cs t (0, 0)) → cs[o]? = some (.int .i64 q) → w'.heap[k]? = some (.cells (cs.setIfInBounds o (.int .i64 (f q))) t (0, 0))
theorem Wr.id {k o : Nat} (h : ∀ cs t, w.heap[k]? = some (.cells cs t (0, 0)) → w'.heap[k]? = some (.cells cs t (0, 0))) : Wr k o (fun q => q) w w' := by
  intro cs t q hk ho
  rw [h cs t hk]
  congr 2
  refine Array.ext_getElem? fun j => ?_
  by_cases hj : o = j
  · subst hj
    rw [Array.getElem?_setIfInBounds_self_of_lt (Array.getElem?_eq_some_iff.1 ho).1, ho]
  · rw [Array.getElem?_setIfInBounds_ne hj]
theorem Wr.of_set {k o : Nat} (i : Int) : Wr k o (fun _ => i) w (w.setCell ⟨k, o, none⟩ (.int .i64 i)) := fun _ _ _ hk _ => heap_set _ hk
theorem Wr.after {u : World} {k o : Nat} {f : Int → Int} (h : ∀ cs t, u.heap[k]? = some (.cells cs t (0, 0)) → w.heap[k]? = some (.cells cs t (0, 0))) (hw : Wr k o f w w') : Wr k o f u w' := fun cs t q hk ho => hw cs t q (h cs t hk) ho
theorem Wr.ahead {u : World} {k o : Nat} {f : Int → Int} (hw : Wr k o f u w) (h : ∀ cs t, w.heap[k]? = some (.cells cs t (0, 0)) → w'.heap[k]? = some (.cells cs t (0, 0))) : Wr k o f u w' := fun cs t q hk ho => h _ _ (hw cs t q hk ho)

set_option maxHeartbeats 1000000 in
theorem nfail_any (c p : Int) (w : World) (h : RsW H pb rb fb vb pc F s w) :
    Calls Tryz.prog 75 #[.pointer (some ⟨rb, 0, none⟩), .int .i64 c, .int .i64 p] w fun e w' => e = .returned (.tuple #[]) ∧ RsW H pb rb fb vb pc F (s.fail c p) w' ∧ Fr H F0 w w' := by
  have c3 : w.cell? ⟨rb, 3, none⟩ = some (.int .i64 s.code) := h.cell 3
  have c4 : w.cell? ⟨rb, 4, none⟩ = some (.int .i64 s.pos) := h.cell 4
  have f3 := h.froz 3
  have f4 := h.froz 4
  by_cases hc : s.code = 0
  · have h1 : RsW H pb rb fb vb pc F ⟨s.vars, c, s.pos⟩ (w.setCell ⟨rb, 3, none⟩ (.int .i64 c)) := h.write 3 _ rfl rfl
    have h2 : RsW H pb rb fb vb pc F ⟨s.vars, c, p⟩ ((w.setCell ⟨rb, 3, none⟩ (.int .i64 c)).setCell ⟨rb, 4, none⟩ (.int .i64 p)) := h1.write 4 _ rfl rfl
    have hx := (((Fr.refl H F0 w).set h.rge h.notree 3 (.int .i64 c)).set h.rge h1.notree 4 (.int .i64 p))
    have hf : Hid (s.fail c p = ⟨s.vars, c, p⟩) := if_pos hc
    rw [hc] at c3
    clear hc h1
    go_enter Tryz.func75, Tryz.ntmps75
    go_wp2
    go_end0
    exact ⟨rfl, by rw [hf.out]; exact h2, hx⟩
  · have hf : Hid (s.fail c p = s) := if_neg hc
    have hc' : (s.code == 0) = false := by simpa using hc
    go_enter Tryz.func75, Tryz.ntmps75
    go_wp2
    go_end0
    exact ⟨rfl, by rw [hf.out]; exact h, Fr.refl _ _ _⟩
end Go.Proofs.YtikffmloeifkpaaGreatDoor

/- Package names: variables. -/
namespace Go.Proofs.YtikffmloeifkpaaGreatDoor
open Go.RowKit Go.Lib Go.Deep Go.ChangeMaps Go.MapKept

/-- A name that lies in block k, from cell o on; it may be said there what it means. -/
structure NamW (H : Nat) (P : TypeId → Int → Prop) (w : World) (k o : Nat) (x : ByteArray) (p : Int) : Prop where
  ex : ∃ cs t q p0, w.heap[k]? = some (.cells cs t (0, 0)) ∧ cs[o]? = some (.string x) ∧ cs[o + 1]? = some (.int .i64 p) ∧ cs[o + 2]? = some (.int .i64 q) ∧ cs[1]? = some (.int .i64 p0) ∧ P t p0 ∧ treeTyp t
  ge : H ≤ k

variable {H pb rb fb vb : Nat} {pc : Array Value} {F : Ents} {s : Rs} {w w' : World} {k o : Nat} {x : ByteArray} {p : Int} {P : TypeId → Int → Prop}
theorem Fr.keep0 (hx : Fr H F0 w w') {cs : Array Value} {t : TypeId} (ht : treeTyp t) (hk : w.heap[k]? = some (.cells cs t (0, 0))) : w'.heap[k]? = some (.cells cs t (0, 0)) := hx.same hk ht (fun _ _ h => h)
theorem NamW.fr0 (h : NamW H P w k o x p) (hx : Fr H F0 w w') : NamW H P w' k o x p := by
  obtain ⟨cs, t, q, p0, hk, h0, h1, h2, h3, h4, ht⟩ := h.ex
  exact ⟨⟨cs, t, q, p0, hx.keep0 ht hk, h0, h1, h2, h3, h4, ht⟩, h.ge⟩
theorem NamW.keep0 (h : NamW H P w k o x p) (hx : Fr H F0 w w') : ∀ cs t, w.heap[k]? = some (.cells cs t (0, 0)) → w'.heap[k]? = some (.cells cs t (0, 0)) := by
  obtain ⟨cs, t, q, p0, hk, h0, h1, h2, h3, h4, ht⟩ := h.ex
  intro c2 t2 e
  rw [hk] at e
  simp only [Option.some.injEq, Obj.cells.injEq] at e
  obtain ⟨rfl, rfl, _⟩ := e
  exact hx.keep0 ht hk
theorem NamW.c0 (h : NamW H P w k o x p) : w.cell? ⟨k, o, none⟩ = some (.string x) := by
  obtain ⟨cs, t, q, p0, hk, h0, _⟩ := h.ex
  rw [cell_of_row _ _ _ _ _ _ hk]; exact h0
theorem NamW.c1 (h : NamW H P w k o x p) : w.cell? ⟨k, o + 1, none⟩ = some (.int .i64 p) := by
  obtain ⟨cs, t, q, p0, hk, _, h1, _⟩ := h.ex
  rw [cell_of_row _ _ _ _ _ _ hk]; exact h1
theorem NamW.c2 (h : NamW H P w k o x p) : ∃ q, w.cell? ⟨k, o + 2, none⟩ = some (.int .i64 q) := by
  obtain ⟨cs, t, q, p0, hk, _, _, h2, _⟩ := h.ex
  exact ⟨q, by rw [cell_of_row _ _ _ _ _ _ hk]; exact h2⟩
theorem NamW.froz (h : NamW H P w k o x p) (j : Nat) : w.frozen? ⟨k, j, none⟩ = false := by
  obtain ⟨cs, t, q, p0, hk, _⟩ := h.ex
  simp [World.frozen?, hk]
theorem NamW.drewN (h : NamW H P w k o x p) (n : Nat) : NamW H P (w.drewN n) k o x p := ⟨h.ex, h.ge⟩

def Rs.newVar (s : Rs) (x : ByteArray) (p most : Int) : Rs :=
  if most ≤ s.vars.length then (if (look x s.vars).isSome then s.fail 4 p else s).fail 5 p else if (look x s.vars).isSome then s.fail 4 p else s
theorem Rs.fail_vars (s : Rs) (c p : Int) : (s.fail c p).vars = s.vars := by unfold Rs.fail; split <;> rfl

theorem wpList_len_mp {ops : Array Oper} {rest : List Oper} {oo : Oper} {a : Act} {Q : Exit → Act → World → Prop} (hg : oo.guard = none) (m : Operand) (hop : oo.op = Op.call { callee := Callee.builtin Builtin.len, args := #[m], argTypes := #[147] })
    (b n : Nat) (l : Ents) (hm : a.eval m = .map (some b)) (h : Mp w b n l) (hK : wpList Tryz.prog ops Q rest (a.put oo.dst (.int .i64 l.length)) w) : wpList Tryz.prog ops Q (oo :: rest) a w := by
  obtain ⟨D, h1, _, _, h2⟩ := h
  refine wpList_len_own w hg m 147 hop 9 3 Tryz.underlying147 _ b n D hm h1 ?_
  rw [h2]; exact hK

set_option maxHeartbeats 1000000 in
theorem newVar_any (w : World) (most : Int) (h : RsW H pb rb fb vb pc F s w) (hn : NamW H P w k o x p) (hx : x.size ≤ maxLen) :
    Calls Tryz.prog 193 #[.pointer (some ⟨rb, 0, none⟩), .pointer (some ⟨k, o, none⟩), .int .i64 most] w fun e w' => e = .returned (.tuple #[]) ∧ RsW H pb rb fb vb pc F (s.newVar x p most) w' ∧ Fr H F0 w w' := by
  have c2 : w.cell? ⟨rb, 2, none⟩ = some (.map (some vb)) := h.cell 2
  have n0 := hn.c0
  have n1 := hn.c1
  have hlk : ∀ n, (Instr.lookup 147 (.map (some vb)) (.string x) true).run Tryz.prog (w.drewN n) = .ok (.tuple #[.int .i64 ((look x s.vars).getD 0), .bool (look x s.vars).isSome]) (w.drewN n) := fun n => (h.drewN n).vars.look_ok x hx
  cases hv : (look x s.vars).isSome
  · rw [hv] at hlk
    by_cases hm : most ≤ s.vars.length
    · have hs : Hid (s.newVar x p most = s.fail 5 p) := by unfold Hid Rs.newVar; rw [if_pos hm, hv]; rfl
      go_enter Tryz.func193, Tryz.ntmps193
      go_wp2_with fail
      go_quiet (fail)
      go_wp2_with (at_len; refine wpList_len_mp rfl _ rfl vb _ _ rfl (h.drewN _).vars ?_)
      refine (nfail_any 5 p _ (h.drewN _)).mono ?_
      rintro e W2 ⟨rfl, h2, x2⟩
      go_wp2
      go_end0
      exact ⟨rfl, by rw [hs.out]; exact h2, ((Fr.refl H F0 w).drewN _).trans x2⟩
    · have hs : Hid (s.newVar x p most = s) := by unfold Hid Rs.newVar; rw [if_neg hm, hv]; rfl
      go_enter Tryz.func193, Tryz.ntmps193
      go_wp2_with fail
      go_quiet (fail)
      go_wp2_with (at_len; refine wpList_len_mp rfl _ rfl vb _ _ rfl (h.drewN _).vars ?_)
      go_end0
      exact ⟨rfl, by rw [hs.out]; exact h.drewN _, (Fr.refl H F0 w).drewN _⟩
  · rw [hv] at hlk
    have hv1 : ∀ p, (s.fail 4 p).vars = s.vars := fun p => s.fail_vars 4 p
    by_cases hm : most ≤ s.vars.length
    · have hs : Hid (s.newVar x p most = (s.fail 4 p).fail 5 p) := by unfold Hid Rs.newVar; rw [if_pos hm, hv]; rfl
      go_enter Tryz.func193, Tryz.ntmps193
      go_wp2_with fail
      go_quiet (fail)
      go_wp2_with fail
      refine (nfail_any 4 p _ (h.drewN _)).mono ?_
      rintro e W2 ⟨rfl, h2, x2⟩
      have hn2 := (hn.drewN _).fr0 x2
      have d2 : W2.cell? ⟨rb, 2, none⟩ = some (.map (some vb)) := h2.cell 2
      have m1 := hn2.c1
      have hv2 := h2.vars
      rw [hv1] at hv2
      go_wp2_with (at_len; refine wpList_len_mp rfl _ rfl vb _ _ rfl hv2 ?_)
      refine (nfail_any 5 p _ h2).mono ?_
      rintro e W3 ⟨rfl, h3, x3⟩
      go_wp2
      go_end0
      exact ⟨rfl, by rw [hs.out]; exact h3, (((Fr.refl H F0 w).drewN _).trans x2).trans x3⟩
    · have hs : Hid (s.newVar x p most = s.fail 4 p) := by unfold Hid Rs.newVar; rw [if_neg hm, hv]; rfl
      go_enter Tryz.func193, Tryz.ntmps193
      go_wp2_with fail
      go_quiet (fail)
      go_wp2_with fail
      refine (nfail_any 4 p _ (h.drewN _)).mono ?_
      rintro e W2 ⟨rfl, h2, x2⟩
      have d2 : W2.cell? ⟨rb, 2, none⟩ = some (.map (some vb)) := h2.cell 2
      have hv2 := h2.vars
      rw [hv1] at hv2
      go_wp2_with (at_len; refine wpList_len_mp rfl _ rfl vb _ _ rfl hv2 ?_)
      go_end0
      exact ⟨rfl, by rw [hs.out]; exact h2, ((Fr.refl H F0 w).drewN _).trans x2⟩
end Go.Proofs.YtikffmloeifkpaaGreatDoor

/- Package names: variables, put in and looked for. -/
namespace Go.Proofs.YtikffmloeifkpaaGreatDoor
open Go.RowKit Go.Lib Go.Deep Go.ChangeMaps Go.MapKept

variable {H pb rb fb vb : Nat} {pc : Array Value} {F : Ents} {s : Rs} {w w' : World} {k o : Nat} {x : ByteArray} {p : Int} {P : TypeId → Int → Prop}

def Rs.addVar (s : Rs) (x : ByteArray) : Rs := ⟨put x s.vars.length s.vars, s.code, s.pos⟩
def Rs.oldVar (s : Rs) (x : ByteArray) (p : Int) : Rs := if (look x s.vars).isSome then s else s.fail 4 p

theorem F0.to (t : TypeId) (p : Int) : F0 t p → P t p := fun h => absurd h id
/-- What a name means, written. -/
theorem NamW.write (hn : NamW H P w k o x p) (h : RsW H pb rb fb vb pc F s w) (i : Int) : RsW H pb rb fb vb pc F s (w.setCell ⟨k, o + 2, none⟩ (.int .i64 i)) ∧ Fr H P w (w.setCell ⟨k, o + 2, none⟩ (.int .i64 i)) ∧ (w.setCell ⟨k, o + 2, none⟩ (.int .i64 i)).cell? ⟨k, o + 2, none⟩ = some (.int .i64 i) ∧
    (w.setCell ⟨k, o + 2, none⟩ (.int .i64 i)).cell? ⟨k, o, none⟩ = some (.string x) := by
  obtain ⟨cs, t, q, p0, hk, h0, h1, h2, h3, h4, ht⟩ := hn.ex
  refine ⟨h.which hk ht _, (Fr.refl H P w).write hk hn.ge (by omega) h3 h4 _, ?_, ?_⟩
  · rw [cell_of_row _ _ _ _ _ _ (heap_set (o := o + 2) (.int .i64 i) hk)]
    simp [Array.getElem?_setIfInBounds_self_of_lt (Array.getElem?_eq_some_iff.1 h2).1]
  · rw [cell_of_row _ _ _ _ _ _ (heap_set (o := o + 2) (.int .i64 i) hk), Array.getElem?_setIfInBounds_ne (by omega)]
    exact h0

set_option maxHeartbeats 1000000 in
theorem oldVar_any (w : World) (h : RsW H pb rb fb vb pc F s w) (hn : NamW H P w k o x p) (hx : x.size ≤ maxLen) :
    Calls Tryz.prog 247 #[.pointer (some ⟨rb, 0, none⟩), .pointer (some ⟨k, o, none⟩)] w fun e w' => e = .returned (.tuple #[]) ∧ RsW H pb rb fb vb pc F (s.oldVar x p) w' ∧ Fr H P w w' ∧ Wr k (o + 2) (fun _ => (look x s.vars).getD 0) w w' := by
  have c2 : w.cell? ⟨rb, 2, none⟩ = some (.map (some vb)) := h.cell 2
  have n0 := hn.c0
  have n1 := hn.c1
  have hlk : ∀ n, (Instr.lookup 147 (.map (some vb)) (.string x) true).run Tryz.prog (w.drewN n) = .ok (.tuple #[.int .i64 ((look x s.vars).getD 0), .bool (look x s.vars).isSome]) (w.drewN n) := fun n => (h.drewN n).vars.look_ok x hx
  cases hv : (look x s.vars).isSome
  · rw [hv] at hlk
    have hs : Hid (s.oldVar x p = s.fail 4 p) := by unfold Hid Rs.oldVar; rw [hv]; rfl
    go_enter Tryz.func247, Tryz.ntmps247
    go_wp2_with fail
    go_quiet (fail)
    go_wp2_with fail
    refine (nfail_any 4 p _ (h.drewN _)).mono ?_
    rintro e W2 ⟨rfl, h2, x2⟩
    have hn2 := (hn.drewN nq).fr0 x2
    have hk2 := (hn.drewN nq).keep0 x2
    obtain ⟨q2, m2⟩ := hn2.c2
    have f2 := hn2.froz (o + 2)
    obtain ⟨h3, x3, _, _⟩ := hn2.write h2 ((look x s.vars).getD 0)
    go_wp2
    go_end0
    exact ⟨rfl, by rw [hs.out]; exact h3, (((Fr.refl H P w).drewN _).trans (x2.mono F0.to)).trans x3, Wr.after hk2 (Wr.of_set _)⟩
  · rw [hv] at hlk
    have hs : Hid (s.oldVar x p = s) := by unfold Hid Rs.oldVar; rw [hv]; rfl
    obtain ⟨q2, m2⟩ := hn.c2
    have f2 := hn.froz (o + 2)
    have hw := fun n => (hn.drewN n).write (h.drewN n) ((look x s.vars).getD 0)
    go_enter Tryz.func247, Tryz.ntmps247
    go_wp2_with fail
    go_quiet (fail)
    go_wp2
    go_end0
    exact ⟨rfl, by rw [hs.out]; exact (hw _).1, ((Fr.refl H P w).drewN _).trans (hw _).2.1, Wr.after (w := w.drewN nq) (fun _ _ h => h) (Wr.of_set _)⟩

set_option maxHeartbeats 1000000 in
theorem addVar_any (w : World) (h : RsW H pb rb fb vb pc F s w) (hn : NamW H P w k o x p) (hx : x.size ≤ maxLen) (hl : s.vars.length ≤ 1000000) :
    Calls Tryz.prog 194 #[.pointer (some ⟨rb, 0, none⟩), .pointer (some ⟨k, o, none⟩)] w fun e w' => e = .returned (.tuple #[]) ∧ RsW H pb rb fb vb pc F (s.addVar x) w' ∧ Fr H P w w' ∧ Wr k (o + 2) (fun _ => s.vars.length) w w' := by
  have c2 : w.cell? ⟨rb, 2, none⟩ = some (.map (some vb)) := h.cell 2
  obtain ⟨q2, m2⟩ := hn.c2
  have f2 := hn.froz (o + 2)
  obtain ⟨h1, x1, g2, d0⟩ := hn.write h s.vars.length
  have hwf : (Lit.int .i64 (s.vars.length : Int)).wf = true := by simp [Lit.wf, IntKind.min, IntKind.max, IntKind.bits, IntKind.signed]; omega
  obtain ⟨W3, hrun, hmp, ht⟩ := (h1.drew).vars.put (by unfold maxLen; omega) x hx s.vars.length hwf
  have d2 : (w.setCell ⟨k, o + 2, none⟩ (.int .i64 s.vars.length)).cell? ⟨rb, 2, none⟩ = some (.map (some vb)) := h1.cell 2
  have hkeep : ∀ cs t, (w.setCell ⟨k, o + 2, none⟩ (.int .i64 s.vars.length)).heap[k]? = some (.cells cs t (0, 0)) → W3.heap[k]? = some (.cells cs t (0, 0)) := by
    intro cs t hk
    obtain ⟨es, cl, es', cl', hb, rfl⟩ := ht
    refine (heap_setBlock_other hb _ ?_).trans hk
    intro e
    subst e
    have hb' : (w.setCell ⟨k, o + 2, none⟩ (.int .i64 s.vars.length)).heap[k]? = some (.map es cl) := hb
    rw [hk] at hb'
    cases hb'
  have hwr : Wr k (o + 2) (fun _ => (s.vars.length : Int)) w W3 := (Wr.of_set _).ahead hkeep
  have HWR : Hid _ := hwr
  clear hkeep hwr
  go_enter Tryz.func194, Tryz.ntmps194
  go_wp2_with (at_len; refine wpList_len_mp rfl _ rfl vb _ _ rfl h.vars ?_)
  generalize w.setCell ⟨k, o + 2, none⟩ (.int .i64 s.vars.length) = W1 at *
  go_region
  all_goals go_wp2
  all_goals go_end0
  all_goals exact ⟨rfl, (h1.drew).turned hmp ht, x1.drew.turned h.vge ht, HWR.out⟩
end Go.Proofs.YtikffmloeifkpaaGreatDoor

/- Package names: what a name means. -/
namespace Go.Proofs.YtikffmloeifkpaaGreatDoor
open Go.RowKit Go.Lib Go.Deep Go.ChangeMaps Go.MapKept

/-- An item's own block, as far as names reads it. -/
def ItO (w : World) (b : Nat) (a : Nd) (l : Tr) : Prop := (a.tag = 16 ∧ At w b 196 fun cs => Nam cs 0 a) ∨ (a.tag = 17 ∧ At w b 105 fun cs => Nam cs 0 a ∧ cs[3]? = some (valT l))
/-- The items, where the program has them. -/
structure ItW (pc : Array Value) (its : List Tr) (w : World) : Prop where
  row : 0 < its.length → ∃ g cp rw, pc[0]? = some (.slice (some ⟨g, 0, none⟩) its.length cp) ∧ w.heap[g]? = some (.cells rw 151 (0, 0)) ∧ ∀ (i : Nat) t, its[i]? = some t → rw[i]? = some (valT t)
  own : ∀ t ∈ its, ∃ b o a l r, t = .node b o a l r ∧ ItO w b a l
  few : its.length ≤ 1000000
/-- The first item of each name. -/
def FirstOk (F : Ents) (its : List Tr) : Prop := ∀ x i, look x F = some i → 0 ≤ i ∧ i < its.length
def meantP (F : Ents) (its : List Tr) (x : ByteArray) : Option Tr := (look x F).bind fun i => its[i.toNat]?
def valM : Option Tr → Value
  | none => .nilIface
  | some t => valT t

variable {H pb rb fb vb : Nat} {pc : Array Value} {F : Ents} {s : Rs} {w w' : World} {its : List Tr} {x : ByteArray} {P : TypeId → Int → Prop}

/-- Places in functions' bodies. -/
def bodyTyp (t : TypeId) : Prop := t = 361 ∨ t = 395 ∨ t = 450 ∨ t = 405 ∨ t = 328 ∨ t = 331
theorem bodyTyp.pos {t : TypeId} (h : bodyTyp t) : posTyp t := by unfold bodyTyp at h; unfold posTyp; rcases h with h | h | h | h | h | h <;> simp [h]
/-- Places within functions. -/
def inTyp (t : TypeId) : Prop := t ≠ 196 ∧ t ≠ 105 ∧ t ≠ 151
theorem bodyTyp.inT {t : TypeId} (h : bodyTyp t) : inTyp t := by
  unfold bodyTyp at h
  rcases h with h | h | h | h | h | h <;> rw [h] <;> exact ⟨by decide, by decide, by decide⟩
theorem ItO.fr {b : Nat} {a : Nd} {l : Tr} (h : ItO w b a l) (hx : Fr H P w w') (hP : ∀ t p, P t p → inTyp t) : ItO w' b a l := by
  rcases h with ⟨h1, h2⟩ | ⟨h1, h2⟩
  · exact .inl ⟨h1, hx.at h2 (by simp [treeTyp, treeTyp0]) (fun _ _ p _ hp => (hP _ _ hp).1 rfl)⟩
  · exact .inr ⟨h1, hx.at h2 (by simp [treeTyp, treeTyp0]) (fun _ _ p _ hp => (hP _ _ hp).2.1 rfl)⟩
theorem ItW.fr (h : ItW pc its w) (hx : Fr H P w w') (hP : ∀ t p, P t p → inTyp t) : ItW pc its w' := by
  refine ⟨fun hp => ?_, fun t ht => ?_, h.few⟩
  · obtain ⟨g, cp, rw', h2, h3, h4⟩ := h.row hp
    exact ⟨g, cp, rw', h2, hx.same h3 (by simp [treeTyp, treeTyp0]) (fun p _ hp => (hP _ _ hp).2.2 rfl), h4⟩
  · obtain ⟨b, o, a, l, r, e, ho⟩ := h.own t ht
    exact ⟨b, o, a, l, r, e, ho.fr hx hP⟩
theorem ItW.kind (h : ItW pc its w) : ∀ t ∈ its, ∃ b o a l r, t = .node b o a l r ∧ (a.tag = 16 ∨ a.tag = 17) := fun t ht => by
  obtain ⟨b, o, a, l, r, e, ho⟩ := h.own t ht
  refine ⟨b, o, a, l, r, e, ?_⟩
  rcases ho with ⟨h, _⟩ | ⟨h, _⟩ <;> simp [h]

set_option maxHeartbeats 1000000 in
theorem meant_any (w : World) (h : RsW H pb rb fb vb pc F s w) (hi : ItW pc its w) (hf : FirstOk F its) (hx : x.size ≤ maxLen) :
    Calls Tryz.prog 74 #[.pointer (some ⟨rb, 0, none⟩), .string x] w fun e w' => e = .returned (valM (meantP F its x)) ∧ w = w' := by
  have c0 : w.cell? ⟨rb, 0, none⟩ = some (.pointer (some ⟨pb, 0, none⟩)) := h.cell 0
  have c1 : w.cell? ⟨rb, 1, none⟩ = some (.map (some fb)) := h.cell 1
  have hlk := h.first.look_ok x hx
  cases hl : look x F with
  | none =>
    rw [hl] at hlk
    have hm : Hid (valM (meantP F its x) = .nilIface) := by unfold Hid meantP; rw [hl]; rfl
    simp only [Option.isSome_none, Option.getD_none] at hlk
    go_enter Tryz.func74, Tryz.ntmps74
    go_wp2
    go_ret
    exact ⟨congrArg Ending.returned hm.out.symm, rfl⟩
  | some i =>
    rw [hl] at hlk
    obtain ⟨i0, i1⟩ := hf x i hl
    obtain ⟨j, rfl⟩ : ∃ j : Nat, i = j := ⟨i.toNat, by omega⟩
    have hj : j < its.length := by omega
    obtain ⟨g, cp, rw', h2, h3, h4⟩ := hi.row (by omega)
    have p0 : w.cell? ⟨pb, 0, none⟩ = some (.slice (some ⟨g, 0, none⟩) its.length cp) := by rw [cell_of_row _ _ _ _ _ _ h.prog]; exact h2
    have ht := h4 j its[j] (List.getElem?_eq_getElem hj)
    have p1 : w.cell? ⟨g, j, none⟩ = some (valT its[j]) := by rw [cell_of_row _ _ _ _ _ _ h3]; exact ht
    have hm : Hid (valM (meantP F its x) = valT its[j]) := by unfold Hid meantP; rw [hl]; simp [List.getElem?_eq_getElem hj, valM]
    obtain ⟨b, o, a, l, r, hn, htag⟩ := hi.kind its[j] (List.getElem_mem hj)
    have hvt : valT its[j] = .iface (ityp a.tag) (.pointer (some ⟨b, 0, none⟩)) := by rw [hn]; exact if_neg (by omega)
    have HV : Hid (valT its[j] = .iface (ityp a.tag) (.pointer (some ⟨b, 0, none⟩))) := hvt
    rw [hvt] at p1
    have hfew := hi.few
    simp only [Option.isSome_some, Option.getD_some] at hlk
    clear ht h4 hvt hn hl
    go_enter Tryz.func74, Tryz.ntmps74
    go_wp2
    go_ret
    exact ⟨congrArg Ending.returned (hm.out.trans HV.out).symm, rfl⟩
end Go.Proofs.YtikffmloeifkpaaGreatDoor

/- Package names: an array's name. -/
namespace Go.Proofs.YtikffmloeifkpaaGreatDoor
open Go.RowKit Go.Lib Go.Deep Go.ChangeMaps Go.MapKept

/-- All that names works in. -/
structure NsW (H pb rb fb vb : Nat) (pc : Array Value) (F : Ents) (its : List Tr) (s : Rs) (w : World) : Prop where
  rs : RsW H pb rb fb vb pc F s w
  it : ItW pc its w
  fo : FirstOk F its

variable {H pb rb fb vb : Nat} {pc : Array Value} {F : Ents} {its : List Tr} {s s' : Rs} {w w' : World} {k o : Nat} {x : ByteArray} {p : Int} {P : TypeId → Int → Prop}

theorem NsW.fr (h : NsW H pb rb fb vb pc F its s w) (hr : RsW H pb rb fb vb pc F s' w') (hx : Fr H P w w') (hP : ∀ t p, P t p → bodyTyp t) : NsW H pb rb fb vb pc F its s' w' :=
  ⟨hr, h.it.fr hx fun t p hp => (hP t p hp).inT, h.fo⟩
theorem NsW.frI (h : NsW H pb rb fb vb pc F its s w) (hr : RsW H pb rb fb vb pc F s' w') (hx : Fr H P w w') (hP : ∀ t p, P t p → inTyp t) : NsW H pb rb fb vb pc F its s' w' :=
  ⟨hr, h.it.fr hx hP, h.fo⟩

/-- The first item of a name, if it is an array. -/
def arrayOf (F : Ents) (its : List Tr) (x : ByteArray) : Option Tr := match meantP F its x with
  | some (.node b o a l r) => if a.tag = 16 then some (.node b o a l r) else none
  | _ => none
def funcOf (F : Ents) (its : List Tr) (x : ByteArray) : Option Tr := match meantP F its x with
  | some (.node b o a l r) => if a.tag = 17 then some (.node b o a l r) else none
  | _ => none
def Rs.arrayName (s : Rs) (F : Ents) (its : List Tr) (x : ByteArray) (p : Int) : Rs := if (arrayOf F its x).isSome then s else s.fail 4 p
/-- Which one an item is. -/
def whichT : Tr → Int
  | .nil => 0
  | .node _ _ a _ _ => a.which
def whichA (F : Ents) (its : List Tr) (x : ByteArray) (q : Int) : Int := match arrayOf F its x with
  | some t => whichT t
  | none => q

theorem ta_arr_nil (w : World) : (Instr.typeAssert .nilIface 151 192 true).run Tryz.prog w = .ok (.tuple #[.pointer none, .bool false]) w := by kernel_rfl
theorem ta_arr_hit (q : Option Addr) (w : World) : (Instr.typeAssert (.iface 192 (.pointer q)) 151 192 true).run Tryz.prog w = .ok (.tuple #[.pointer q, .bool true]) w := by kernel_rfl
theorem ta_arr_miss (q : Option Addr) (w : World) : (Instr.typeAssert (.iface 106 (.pointer q)) 151 192 true).run Tryz.prog w = .ok (.tuple #[.pointer none, .bool false]) w := by kernel_rfl
theorem ta_fun_nil (w : World) : (Instr.typeAssert .nilIface 151 106 true).run Tryz.prog w = .ok (.tuple #[.pointer none, .bool false]) w := by kernel_rfl
theorem ta_fun_hit (q : Option Addr) (w : World) : (Instr.typeAssert (.iface 106 (.pointer q)) 151 106 true).run Tryz.prog w = .ok (.tuple #[.pointer q, .bool true]) w := by kernel_rfl
theorem ta_fun_miss (q : Option Addr) (w : World) : (Instr.typeAssert (.iface 192 (.pointer q)) 151 106 true).run Tryz.prog w = .ok (.tuple #[.pointer none, .bool false]) w := by kernel_rfl
theorem meant_mem {x : ByteArray} {t : Tr} (hm : meantP F its x = some t) : t ∈ its := by
  unfold meantP at hm
  cases hl : look x F with
  | none => rw [hl] at hm; cases hm
  | some i =>
    rw [hl] at hm
    exact List.mem_of_getElem? hm
/-- Three ways. -/
theorem meant_ways (h : NsW H pb rb fb vb pc F its s w) (x : ByteArray) : meantP F its x = none ∨ (∃ b o a l r, meantP F its x = some (.node b o a l r) ∧ a.tag = 16 ∧ At w b 196 fun cs => Nam cs 0 a) ∨ (∃ b o a l r, meantP F its x = some (.node b o a l r) ∧ a.tag = 17 ∧ At w b 105 fun cs => Nam cs 0 a ∧ cs[3]? = some (valT l)) := by
  cases hm : meantP F its x with
  | none => exact .inl rfl
  | some t =>
    right
    obtain ⟨b, o, a, l, r, rfl, ho⟩ := h.it.own t (meant_mem hm)
    rcases ho with ⟨h1, h2⟩ | ⟨h1, h2⟩
    · exact .inl ⟨b, o, a, l, r, rfl, h1, h2⟩
    · exact .inr ⟨b, o, a, l, r, rfl, h1, h2⟩

set_option maxRecDepth 100000 in
set_option maxHeartbeats 2000000 in
theorem arrayName_any (w : World) (h : NsW H pb rb fb vb pc F its s w) (hn : NamW H P w k o x p) (hx : x.size ≤ maxLen) :
    Calls Tryz.prog 248 #[.pointer (some ⟨rb, 0, none⟩), .pointer (some ⟨k, o, none⟩)] w fun e w' => e = .returned (.tuple #[]) ∧ RsW H pb rb fb vb pc F (s.arrayName F its x p) w' ∧ Fr H P w w' ∧ Wr k (o + 2) (whichA F its x) w w' := by
  have t1 := ta_arr_nil w
  have t2 := fun q => ta_arr_hit q w
  have t3 := fun q => ta_arr_miss q w
  have n0 := hn.c0
  have n1 := hn.c1
  obtain ⟨q2, n2⟩ := hn.c2
  have f2 := hn.froz (o + 2)
  rcases meant_ways h x with hm | ⟨b, oo, a, l, r, hm, htag, hist⟩ | ⟨b, oo, a, l, r, hm, htag, hist⟩
  · have hs : Hid (s.arrayName F its x p = s.fail 4 p) := by unfold Hid Rs.arrayName arrayOf; rw [hm]; rfl
    have hw : Hid (whichA F its x = fun q => q) := by unfold Hid; funext q; unfold whichA arrayOf; rw [hm]
    go_enter Tryz.func248, Tryz.ntmps248
    go_wp2_with fail
    refine (meant_any w h.rs h.it h.fo hx).mono ?_
    rintro e W2 ⟨rfl, rfl⟩
    rw [hm]
    unfold valM
    go_wp2_with fail
    refine (nfail_any 4 p _ h.rs).mono ?_
    rintro e W3 ⟨rfl, h3, x3⟩
    have hk3 := hn.keep0 x3
    go_wp2
    refine bodyPost_ret (results_none rfl _ _ _) rfl ?_
    exact ⟨rfl, by rw [hs.out]; exact h3, x3.mono F0.to, by rw [hw.out]; exact Wr.id hk3⟩
  · have hs : Hid (s.arrayName F its x p = s) := by unfold Hid Rs.arrayName arrayOf; rw [hm]; simp [htag]
    have hw : Hid (whichA F its x = fun _ => a.which) := by unfold Hid; funext q; unfold whichA arrayOf; rw [hm]; simp [htag, whichT]
    have hv : valT (.node b oo a l r) = .iface 192 (.pointer (some ⟨b, 0, none⟩)) := by show (if a.tag = 20 then _ else _) = _; rw [if_neg (by omega), htag]; rfl
    obtain ⟨cs, hc, ⟨_, _, hq5⟩⟩ := hist
    have m5 : w.cell? ⟨b, 2, none⟩ = some (.int .i64 a.which) := by rw [cell_of_row _ _ _ _ _ _ hc]; exact hq5
    have hwr := hn.write h.rs a.which
    clear hc htag
    go_enter Tryz.func248, Tryz.ntmps248
    go_wp2_with fail
    refine (meant_any w h.rs h.it h.fo hx).mono ?_
    rintro e W2 ⟨rfl, rfl⟩
    rw [hm]
    unfold valM
    dsimp only
    rw [hv]
    go_wp2
    go_end0
    exact ⟨rfl, by rw [hs.out]; exact hwr.1, hwr.2.1, by rw [hw.out]; exact Wr.of_set _⟩
  · have hs : Hid (s.arrayName F its x p = s.fail 4 p) := by unfold Hid Rs.arrayName arrayOf; rw [hm]; simp [htag]
    have hw : Hid (whichA F its x = fun q => q) := by unfold Hid; funext q; unfold whichA arrayOf; rw [hm]; simp [htag]
    have hv : valT (.node b oo a l r) = .iface 106 (.pointer (some ⟨b, 0, none⟩)) := by show (if a.tag = 20 then _ else _) = _; rw [if_neg (by omega), htag]; rfl
    clear hist htag
    go_enter Tryz.func248, Tryz.ntmps248
    go_wp2_with fail
    refine (meant_any w h.rs h.it h.fo hx).mono ?_
    rintro e W2 ⟨rfl, rfl⟩
    rw [hm]
    unfold valM
    dsimp only
    rw [hv]
    go_wp2_with fail
    refine (nfail_any 4 p _ h.rs).mono ?_
    rintro e W3 ⟨rfl, h3, x3⟩
    have hk3 := hn.keep0 x3
    go_wp2
    refine bodyPost_ret (results_none rfl _ _ _) rfl ?_
    exact ⟨rfl, by rw [hs.out]; exact h3, x3.mono F0.to, by rw [hw.out]; exact Wr.id hk3⟩
end Go.Proofs.YtikffmloeifkpaaGreatDoor
