/- The program's contracts, part 18: each says what a function of the program does, for every argument that its premises name. -/
import Derived.Test.YtikffmloeifkpaaGreatDoorM17
/- Package sites: one site more. -/
namespace Go.Proofs.YtikffmloeifkpaaGreatDoor
open Go.RowKit Go.Lib Go.Deep Go.ChangeMaps Go.MapKept

/-- The sites so far: of each its kind and its place. -/
abbrev Sl := List (Int × Int)
def siteCells : Sl → List Value
  | [] => []
  | (k, p) :: r => .int .i64 k :: .int .i64 p :: .bool false :: siteCells r
theorem siteCells_snoc (l : Sl) (k p : Int) : siteCells (l ++ [(k, p)]) = siteCells l ++ [.int .i64 k, .int .i64 p, .bool false] := by
  induction l with
  | nil => rfl
  | cons x r ih => obtain ⟨a, b⟩ := x; simp only [List.cons_append, siteCells, ih]
/-- The functions, where the program has them. -/
structure FnsW (H : Nat) (vF : Value) (fl : List Tr) (w : World) : Prop where
  row : w.ownsRow H 106 1 vF fl.length (fl.map ptrT)
  own : ∀ e ∈ fl, ∃ b o a l x y z p q, e = .node b o a l (.node x y z p q) ∧ FnW w b a l p q ∧ Ws 5 p ∧ Ws 4 q
theorem FnsW.fr {H : Nat} {vF : Value} {fl : List Tr} {w w' : World} {P : TypeId → Int → Prop} (h : FnsW H vF fl w) (hx : Fr H P w w') (hP : ∀ t p, P t p → bodyTyp t) : FnsW H vF fl w' :=
  ⟨own_row_fr h.row hx (.inr rfl) (fun t p hp => (hP t p hp).pos), fun e he => by
    obtain ⟨b, o, a, l, x, y, z, p, q, e1, e2, e3⟩ := h.own e he
    exact ⟨b, o, a, l, x, y, z, p, q, e1, e2.fr hx (fun t p hp => (hP t p hp).inT), e3⟩⟩
/-- What the numberer works in: its block, the program. -/
structure SiW (H pb nb : Nat) (it vA vF : Value) (m : Int) (fl : List Tr) (S : Sl) (w : World) : Prop where
  blk : w.heap[nb]? = some (.cells #[.pointer (some ⟨pb, 0, none⟩)] 156 (0, 0))
  prog : ∃ vS, w.heap[pb]? = some (.cells (prgC it vA vF m vS) 111 (0, 0)) ∧ w.ownsRow H 55 3 vS S.length (siteCells S)
  fns : FnsW H vF fl w
  ge : H ≤ nb ∧ H ≤ pb
variable {H pb nb : Nat} {it vA vF : Value} {m : Int} {fl : List Tr} {S S' : Sl} {w w' : World} {P : TypeId → Int → Prop}
theorem nb_ne (h : SiW H pb nb it vA vF m fl S w) : pb ≠ nb := by
  obtain ⟨vS, hp, _⟩ := h.prog
  exact ne_typ hp h.blk (by decide)
theorem SiW.drewN (h : SiW H pb nb it vA vF m fl S w) (n : Nat) : SiW H pb nb it vA vF m fl S (w.drewN n) := ⟨h.blk, h.prog, ⟨h.fns.row, h.fns.own⟩, h.ge⟩
/-- What a part's number is, written: the numberer and the program stay. -/
theorem SiW.set (h : SiW H pb nb it vA vF m fl S w) {k o : Nat} {cs : Array Value} {t : TypeId} (hk : w.heap[k]? = some (.cells cs t (0, 0))) (ht : bodyTyp t) (v : Value) : SiW H pb nb it vA vF m fl S (w.setCell ⟨k, o, none⟩ v) := by
  have off : ∀ {j : Nat} {c : Array Value} {ty : TypeId}, w.heap[j]? = some (.cells c ty (0, 0)) → ¬ bodyTyp ty → (w.setCell ⟨k, o, none⟩ v).heap[j]? = some (.cells c ty (0, 0)) := fun hj hn => by
    refine (Below.heap_setCell _ _ _ _ ?_).trans hj
    intro e; subst e
    rw [hk] at hj
    simp only [Option.some.injEq, Obj.cells.injEq] at hj
    rw [← hj.2.1] at hn
    exact hn ht
  obtain ⟨vS, hp, ho⟩ := h.prog
  refine ⟨off h.blk (by unfold bodyTyp; decide), ⟨vS, off hp (by unfold bodyTyp; decide), own_move ho (fun j hj => ?_)⟩, ⟨own_move h.fns.row (fun j hj => ?_), fun e he => ?_⟩, h.ge⟩
  · obtain ⟨⟨c, hc⟩, _⟩ := own_typ ho hj
    rw [off hc (by unfold bodyTyp; decide), hc]
  · obtain ⟨⟨c, hc⟩, _⟩ := own_typ h.fns.row hj
    rw [off hc (by unfold bodyTyp; decide), hc]
  · obtain ⟨b, o2, a, l, x, y, z, p, q, e1, ⟨c, hc, hr⟩, e3⟩ := h.fns.own e he
    exact ⟨b, o2, a, l, x, y, z, p, q, e1, ⟨c, off hc (by unfold bodyTyp; decide), hr⟩, e3⟩

theorem Tryz.infoSI : (Tryz.prog.info? 55).map (fun i => (i.zero, i.size, i.bytes)) = some (some (.agg #[.int .i64 0, .int .i64 0, .bool false]), 3, 24) := by kernel_rfl

set_option maxRecDepth 100000 in
set_option maxHeartbeats 4000000 in
theorem add_any (k p : Int) (w : World) (h : SiW H pb nb it vA vF m fl S w) (hS : S.length ≤ 1000000) :
    Calls Tryz.prog 198 #[.pointer (some ⟨nb, 0, none⟩), .int .i64 k, .int .i64 p] w fun e w' => e = .returned (.int .i64 S.length) ∧ SiW H pb nb it vA vF m fl (S ++ [(k, p)]) w' ∧ Fr H F0 w w' := by
  obtain ⟨i0, hi0, hz0, hz1, hz2⟩ := info_parts Tryz.infoSI
  obtain ⟨vS, hp, ho⟩ := h.prog
  have hpl := (Array.getElem?_eq_some_iff.1 hp).1
  have hnl := (Array.getElem?_eq_some_iff.1 h.blk).1
  obtain ⟨hH1, hH2⟩ := h.ge
  obtain ⟨ao, cp, rfl, hao⟩ := slice_any ho
  have c0 : w.cell? ⟨nb, 0, none⟩ = some (.pointer (some ⟨pb, 0, none⟩)) := by rw [cell_of_row _ _ _ _ _ _ h.blk]; rfl
  have c4 : w.cell? ⟨pb, 4, none⟩ = some (.slice ao S.length cp) := by rw [cell_of_row _ _ _ _ _ _ hp]; rfl
  have f4 : w.frozen? ⟨pb, 4, none⟩ = false := by simp [World.frozen?, hp]
  have ag : some pb ≠ (Value.slice ao S.length cp).ownBlock := fun e => by
    obtain ⟨⟨c2, hc2⟩, _⟩ := own_typ ho e.symm
    exact ne_typ hp hc2 (by decide) rfl
  have agn : some nb ≠ (Value.slice ao S.length cp).ownBlock := fun e => by
    obtain ⟨⟨c2, hc2⟩, _⟩ := own_typ ho e.symm
    exact ne_typ h.blk hc2 (by decide) rfl
  have hne : nb ≠ pb := (nb_ne h).symm
  have FIN : Hid (∀ (g cap : Nat) (w1 : World), w1.ownsRow H 55 3 (.slice (some ⟨g, 0, none⟩) (S.length + 1) cap) (S.length + 1) (siteCells S ++ [.int .i64 k, .int .i64 p, .bool false]) →
      ((w.alloc (.cells #[.int .i64 k, .int .i64 p, .bool false] 55)).drew).grownBy w1 (Value.slice ao S.length cp).ownBlock → ((Value.slice ao S.length cp).ownBlock = some g ∨ g = w.heap.size + 1) →
      SiW H pb nb it vA vF m fl (S ++ [(k, p)]) (w1.setCell ⟨pb, 4, none⟩ (.slice (some ⟨g, 0, none⟩) (S.length + 1) cap)) ∧ Fr H F0 w (w1.setCell ⟨pb, 4, none⟩ (.slice (some ⟨g, 0, none⟩) (S.length + 1) cap))) := by
    intro g cap w1 hown1 hgrow hat
    have z1 : (w.alloc (.cells #[.int .i64 k, .int .i64 p, .bool false] 55)).drew.heap.size = w.heap.size + 1 := by show (w.alloc _).heap.size = _; simp
    have off : ∀ {j : Nat} {c : Array Value} {ty : TypeId}, w.heap[j]? = some (.cells c ty (0, 0)) → ty ≠ 55 → w1.heap[j]? = some (.cells c ty (0, 0)) := fun {j c ty} hj hty => by
      have hlt := (Array.getElem?_eq_some_iff.1 hj).1
      refine (hgrow.block j (by rw [z1]; omega) (fun e => ?_)).trans ((Below.heap_alloc _ _ _ hlt).trans hj)
      obtain ⟨⟨c2, hc2⟩, _⟩ := own_typ ho e.symm
      exact ne_typ hj hc2 hty rfl
    have hp1 := off hp (by decide)
    have hgp : g ≠ pb := by
      rcases hat with e | e
      · intro e2; rw [e2] at e
        obtain ⟨⟨c2, hc2⟩, _⟩ := own_typ ho e
        exact ne_typ hp hc2 (by decide) rfl
      · omega
    have fr1 : Fr H F0 w w1 := by
      have f0 : Fr H F0 w (w.alloc (.cells #[.int .i64 k, .int .i64 p, .bool false] 55)).drew := ((Fr.refl H F0 w).alloc _ (by omega)).drew
      refine f0.grown hgrow (by rw [z1]; omega) (fun j hj => ?_)
      obtain ⟨⟨c2, hc2⟩, hb⟩ := own_typ ho hj
      refine ⟨hb, fun c t ht e => ?_⟩
      have hlt := (Array.getElem?_eq_some_iff.1 hc2).1
      have e2 : (w.alloc (.cells #[.int .i64 k, .int .i64 p, .bool false] 55)).drew.heap[j]? = w.heap[j]? := Below.heap_alloc _ _ _ hlt
      rw [e2, hc2] at e
      simp only [Option.some.injEq, Obj.cells.injEq] at e
      rw [← e.2.1] at ht
      exact absurd ht (by unfold treeTyp treeTyp0; decide)
    have fr2 : Fr H F0 w (w1.setCell ⟨pb, 4, none⟩ (.slice (some ⟨g, 0, none⟩) (S.length + 1) cap)) := fr1.set hH2 (fun c t ht e => by
      rw [hp1] at e
      simp only [Option.some.injEq, Obj.cells.injEq] at e
      rw [← e.2.1] at ht
      exact absurd ht (by unfold treeTyp treeTyp0; decide)) _ _
    refine ⟨⟨(Below.heap_setCell _ _ _ _ hne).trans (off h.blk (by decide)), ⟨_, heap_set (o := 4) _ hp1, ?_⟩, h.fns.fr fr2 F0.body, h.ge⟩, fr2⟩
    rw [siteCells_snoc, List.length_append]
    refine ⟨hown1.1, ?_⟩
    rcases hown1.2 with ⟨hx, _⟩ | ⟨g', cap', cur, hv', hb', hh, r'⟩
    · cases hx
    · refine .inr ⟨g', cap', cur, hv', hb', ?_, r'⟩
      simp only [Value.slice.injEq, Option.some.injEq, Addr.mk.injEq] at hv'
      obtain ⟨⟨rfl, _, _⟩, _, _⟩ := hv'
      exact (Below.heap_setCell _ _ _ _ hgp).trans hh
  clear hp h
  go_enter Tryz.func198, Tryz.ntmps198
  go_wp2_with fail
  go_region_law
    ((refine step_append_lies _ (by rfl) _ _ _ (by rfl) H 55 i0 _ 3 24 Tryz.underlying52 hi0 hz0 hz1 hz2 rfl (by omega) (.slice ao S.length cp) S.length (siteCells S) (by rfl) ((ho.alloc _).drew)
        ⟨w.heap.size, 0, none⟩ 1 1 [.int .i64 k, .int .i64 p, .bool false] (by rfl) (by rfl) (World.news_of_block (cs := #[.int .i64 k, .int .i64 p, .bool false]) (t := 55) (fr := (0, 0)) (heap_alloc_new w _)) (by simp [Value.oneCell'])
        (by omega) (by unfold maxLen; omega) (by omega) (by simp; omega) (w.heap.size + 1) (by simp) ?_; intro g cap w1 hown1 hgrow hat hlt1; have q1 := (hgrow.cell_far ⟨pb, 4, none⟩ (keepL hpl) ag).trans (keepC hpl c4); have q2 := (hgrow.frozen_far ⟨pb, 4, none⟩ (keepL hpl) ag).trans (keepF hpl f4); have q3 := (hgrow.cell_far ⟨nb, 0, none⟩ (keepL hnl) agn).trans (keepC hnl c0)))
  all_goals obtain ⟨f1, f2⟩ := FIN.out g cap w1 hown1 hgrow hat
  all_goals go_wp2
  all_goals go_ret
  all_goals exact ⟨rfl, f1, f2⟩
end Go.Proofs.YtikffmloeifkpaaGreatDoor

/- Package sites: numbering, plainly. -/
namespace Go.Proofs.YtikffmloeifkpaaGreatDoor
open Go.RowKit Go.Lib Go.Deep Go.ChangeMaps Go.MapKept

/-- How many conditions a function has. -/
def nwOf (fl : List Tr) (k : Int) : Nat := match fl[k.toNat]? with
  | some (.node _ _ _ _ (.node _ _ _ p _)) => lenV p
  | _ => 0
def divs (a : Nd) : Bool := decide (a.op = 30) || decide (a.op = 31)
/-- Ahead of a part's own parts, and between them. -/
def siPre (fl : List Tr) (a : Nd) (S : Sl) : Sl := if a.tag = 2 then S ++ [(1, a.npos)] else if a.tag = 10 then S ++ [(2, a.npos)] else if a.tag = 3 then (if 0 < nwOf fl a.which then S ++ [(4, a.npos)] else S) else S
def siMid (a : Nd) (S : Sl) : Sl := if a.tag = 6 then (if divs a then S ++ [(3, a.pos)] else S) else S
def siNo (fl : List Tr) (a : Nd) (S S1 : Sl) : Int :=
  if a.tag = 2 ∨ a.tag = 10 then S.length else if a.tag = 3 then (if 0 < nwOf fl a.which then (S.length : Int) else -1) else if a.tag = 6 then (if divs a then (S1.length : Int) else -1) else a.site
def siR (fl : List Tr) : Tr → Sl → Sl
  | .nil, S => S
  | .node _ _ a l r, S => siR fl r (siMid a (siR fl l (siPre fl a S)))
def siT (fl : List Tr) : Tr → Sl → Tr
  | .nil, _ => .nil
  | .node b o a l r, S => .node b o { a with site := siNo fl a S (siR fl l (siPre fl a S)) } (siT fl l (siPre fl a S)) (siT fl r (siMid a (siR fl l (siPre fl a S))))
theorem siT_sh (fl : List Tr) : ∀ (t : Tr) (S : Sl), Sh t (siT fl t S) := by
  intro t
  induction t with
  | nil => intro S; trivial
  | node b o a l r ihl ihr => intro S; exact ⟨rfl, rfl, rfl, rfl, rfl, rfl, rfl, rfl, fun _ => rfl, fun _ => rfl, ihl _, ihr _⟩
theorem siR_er (fl : List Tr) : ∀ (t : Tr) (S : Sl), siR fl (er t) S = siR fl t S := by
  intro t
  induction t with
  | nil => intro S; rfl
  | node b o a l r ihl ihr => intro S; simp only [er, siR, ihl, ihr]
theorem siT_er (fl : List Tr) : ∀ (t : Tr) (S : Sl), siT fl (er t) S = er (siT fl t S) := by
  intro t
  induction t with
  | nil => intro S; rfl
  | node b o a l r ihl ihr => intro S; simp only [er, siT, siR_er, ihl, ihr]
theorem siPre_len (fl : List Tr) (a : Nd) (S : Sl) : (siPre fl a S).length ≤ S.length + (if named a.tag then 1 else 0) := by
  unfold siPre
  by_cases h2 : a.tag = 2
  · rw [if_pos h2, h2]; simp [named]
  rw [if_neg h2]
  by_cases h10 : a.tag = 10
  · rw [if_pos h10, h10]; simp [named]
  rw [if_neg h10]
  by_cases h3 : a.tag = 3
  · rw [if_pos h3, h3]
    split <;> simp [named]
  · rw [if_neg h3]; omega
theorem siMid_len (a : Nd) (S : Sl) : (siMid a S).length ≤ S.length + (if a.tag = 6 then 1 else 0) := by
  unfold siMid
  split
  · split <;> simp
  · omega
theorem ps_len (b o : Nat) (a : Nd) (l r : Tr) : (ps (.node b o a l r)).length = (if a.tag = 6 then 1 else 0) + (if a.tag ≠ 6 ∧ named a.tag then 1 else 0) + (ps l).length + (ps r).length := by
  show (if a.tag = 6 then ps l ++ a.pos :: ps r else if named a.tag then a.npos :: (ps l ++ ps r) else ps l ++ ps r).length = _
  by_cases h6 : a.tag = 6
  · rw [if_pos h6, if_pos h6, if_neg (by omega)]
    simp only [List.length_append, List.length_cons]; omega
  · rw [if_neg h6, if_neg h6]
    by_cases hn : named a.tag
    · rw [if_pos hn, if_pos ⟨h6, hn⟩]
      simp only [List.length_append, List.length_cons]; omega
    · rw [if_neg hn, if_neg (fun h => hn h.2)]
      simp only [List.length_append]; omega
theorem siR_len (fl : List Tr) : ∀ (t : Tr) (S : Sl), (siR fl t S).length ≤ S.length + (ps t).length := by
  intro t
  induction t with
  | nil => intro S; exact Nat.le_refl _
  | node b o a l r ihl ihr =>
    intro S
    have h1 := siPre_len fl a S
    have h2 := ihl (siPre fl a S)
    have h3 := siMid_len a (siR fl l (siPre fl a S))
    have h4 := ihr (siMid a (siR fl l (siPre fl a S)))
    rw [ps_len]
    show (siR fl r _).length ≤ _
    by_cases h6 : a.tag = 6
    · rw [if_pos h6] at h3 ⊢
      have : named a.tag = false := by rw [h6]; rfl
      rw [this] at h1
      simp only [Bool.false_eq_true, if_false] at h1
      omega
    · rw [if_neg h6] at h3 ⊢
      by_cases hn : named a.tag
      · rw [if_pos hn] at h1
        rw [if_pos ⟨h6, hn⟩]
        omega
      · rw [if_neg hn] at h1
        rw [if_neg (fun h => hn h.2)]
        omega
/-- All calls mean functions that there are. -/
def Cv (n : Nat) : Tr → Prop
  | .nil => True
  | .node _ _ a l r => Cv n l ∧ Cv n r ∧ (a.tag = 3 → 0 ≤ a.which ∧ a.which < n)

variable {H pb nb : Nat} {it vA vF : Value} {m : Int} {fl : List Tr}
/-- A part's own block, once its number is written there. -/
theorem own_site {k o : Nat} {w w' : World} {a : Nd} {l r : Tr} {i : Int} (h : Own w k a l r) (ht : (a.tag = 2 ∨ a.tag = 3 ∨ a.tag = 6) ∧ o = 4 ∨ a.tag = 10 ∧ o = 5) (hw : ∀ (cs : Array Value) (t : TypeId), w.heap[k]? = some (.cells cs t (0, 0)) → w'.heap[k]? = some (.cells (cs.setIfInBounds o (.int .i64 i)) t (0, 0))) : Own w' k { a with site := i } l r := by
  unfold Own at h ⊢
  dsimp only
  have ne : ∀ {cs : Array Value} {j : Nat} {v : Value} {x : Value}, o ≠ j → cs[j]? = some v → (cs.setIfInBounds o x)[j]? = some v := fun hj hv => (Array.getElem?_setIfInBounds_ne hj).trans hv
  have eq : ∀ {cs : Array Value} {v x : Value}, cs[o]? = some v → (cs.setIfInBounds o x)[o]? = some x := fun hv => by rw [Array.getElem?_setIfInBounds_self_of_lt (Array.getElem?_eq_some_iff.1 hv).1]
  have nm : ∀ {cs : Array Value} {x : Value}, 3 ≤ o → Nam cs 0 a → Nam (cs.setIfInBounds o x) 0 { a with site := i } := fun ho hn => ⟨ne (by omega) hn.1, ne (by omega) hn.2.1, ne (by omega) hn.2.2⟩
  rcases ht with ⟨ht, rfl⟩ | ⟨ht, rfl⟩
  · rcases ht with ht | ht | ht <;> rw [ht] at h ⊢
    · obtain ⟨cs, hc, hn, h3, h4⟩ := h
      exact ⟨_, hw _ _ hc, nm (by omega) hn, ne (by decide) h3, eq h4⟩
    · obtain ⟨cs, hc, hn, h3, h4⟩ := h
      exact ⟨_, hw _ _ hc, nm (by omega) hn, ne (by decide) h3, eq h4⟩
    · obtain ⟨cs, hc, h0, h1, h2, h3, h4⟩ := h
      exact ⟨_, hw _ _ hc, ne (by decide) h0, ne (by decide) h1, ne (by decide) h2, ne (by decide) h3, eq h4⟩
  · rw [ht] at h ⊢
    obtain ⟨cs, hc, hn, h3, h4, h5⟩ := h
    exact ⟨_, hw _ _ hc, nm (by omega) hn, ne (by decide) h3, ne (by decide) h4, eq h5⟩
/-- What its number is, written into a part. -/
theorem site_set {S : Sl} {k o : Nat} {w : World} {a : Nd} {l r : Tr} {i : Int} (hS : SiW H pb nb it vA vF m fl S w) (h : Own w k a l r) (hk : H ≤ k) (ht : (a.tag = 2 ∨ a.tag = 3 ∨ a.tag = 6) ∧ o = 4 ∨ a.tag = 10 ∧ o = 5) :
    SiW H pb nb it vA vF m fl S (w.setCell ⟨k, o, none⟩ (.int .i64 i)) ∧ Fr H (Po a) w (w.setCell ⟨k, o, none⟩ (.int .i64 i)) ∧ Own (w.setCell ⟨k, o, none⟩ (.int .i64 i)) k { a with site := i } l r ∧ (∃ q, w.cell? ⟨k, o, none⟩ = some (.int .i64 q)) ∧ w.frozen? ⟨k, o, none⟩ = false := by
  have key : ∀ (t : TypeId) (cs : Array Value) (p : Int), w.heap[k]? = some (.cells cs t (0, 0)) → bodyTyp t → cs[1]? = some (.int .i64 p) → p ∈ po a → (∃ q, cs[o]? = some (.int .i64 q)) → o ≠ 1 →
      SiW H pb nb it vA vF m fl S (w.setCell ⟨k, o, none⟩ (.int .i64 i)) ∧ Fr H (Po a) w (w.setCell ⟨k, o, none⟩ (.int .i64 i)) ∧ Own (w.setCell ⟨k, o, none⟩ (.int .i64 i)) k { a with site := i } l r ∧ (∃ q, w.cell? ⟨k, o, none⟩ = some (.int .i64 q)) ∧ w.frozen? ⟨k, o, none⟩ = false := by
    intro t cs p hc hb h1 hp hq ho
    refine ⟨hS.set hc hb _, (Fr.refl _ _ _).write hc hk ho h1 ⟨hb, hp⟩ _, own_site h ht (fun c ty hct => heap_set _ hct), ?_, by simp [World.frozen?, hc]⟩
    obtain ⟨q, hq⟩ := hq
    exact ⟨q, by rw [cell_of_row _ _ _ _ _ _ hc]; exact hq⟩
  have hnm : a.tag ≠ 6 → named a.tag = true → a.npos ∈ po a := fun h6 hn => by unfold po; rw [if_neg h6, if_pos hn]; simp
  rcases ht with ⟨ht, rfl⟩ | ⟨ht, rfl⟩
  · rcases ht with ht | ht | ht
    · obtain ⟨cs, hc, hn, h3, h4⟩ := own_tag h (n := 2) ht
      exact key _ cs _ hc (by simp [bodyTyp]) hn.2.1 (hnm (by omega) (by rw [ht]; rfl)) ⟨_, h4⟩ (by omega)
    · obtain ⟨cs, hc, hn, h3, h4⟩ := own_tag h (n := 3) ht
      exact key _ cs _ hc (by simp [bodyTyp]) hn.2.1 (hnm (by omega) (by rw [ht]; rfl)) ⟨_, h4⟩ (by omega)
    · obtain ⟨cs, hc, h0, h1, h2, h3, h4⟩ := own_tag h (n := 6) ht
      exact key _ cs _ hc (by simp [bodyTyp]) h1 (by unfold po; rw [if_pos ht]; simp) ⟨_, h4⟩ (by omega)
  · obtain ⟨cs, hc, hn, h3, h4, h5⟩ := own_tag h (n := 10) ht
    exact key _ cs _ hc (by simp [bodyTyp]) hn.2.1 (hnm (by omega) (by rw [ht]; rfl)) ⟨_, h5⟩ (by omega)
/-- What is asked of a part. -/
def PostS (H pb nb : Nat) (it vA vF : Value) (m : Int) (fl : List Tr) (P : TypeId → Int → Prop) (t : Tr) (S : Sl) (w : World) : Ending → World → Prop := fun e w' => e = .returned (.tuple #[]) ∧ SiW H pb nb it vA vF m fl S w' ∧ IsT w' t ∧ Fr H P w w'
def GSi (f H pb nb : Nat) (it vA vF : Value) (m : Int) (fl : List Tr) (val : Tr → Value) (t : Tr) : Prop :=
  ∀ S w, SiW H pb nb it vA vF m fl S w → IsT w t → S.length + (ps t).length ≤ 1000000 → Calls Tryz.prog f #[.pointer (some ⟨nb, 0, none⟩), val t] w (PostS H pb nb it vA vF m fl (Pt t) (siT fl t S) (siR fl t S) w)
theorem keep_si {H s : Nat} {w w' : World} {t t' r : Tr} (h : IsT w t') (hx : Fr H (Pt r) w w') (hw : Ws s t) (hs : Sh t t') (ha : ∀ p ∈ ps r, p ∉ ps t) : IsT w' t' := keep_re h hx hw hs ha
theorem Cv.mk {n : Nat} {b o : Nat} {a : Nd} {l r : Tr} (h : Cv n (.node b o a l r)) : Cv n l ∧ Cv n r ∧ (a.tag = 3 → 0 ≤ a.which ∧ a.which < n) := h
theorem siPlain {a : Nd} {S S1 : Sl} (h : a.tag ≠ 2 ∧ a.tag ≠ 3 ∧ a.tag ≠ 6 ∧ a.tag ≠ 10) : siPre fl a S = S ∧ siMid a S1 = S1 ∧ siNo fl a S S1 = a.site := by
  refine ⟨?_, ?_, ?_⟩
  · unfold siPre; rw [if_neg (by omega), if_neg (by omega), if_neg (by omega)]
  · unfold siMid; rw [if_neg (by omega)]
  · unfold siNo; rw [if_neg (by omega), if_neg (by omega), if_neg (by omega)]
end Go.Proofs.YtikffmloeifkpaaGreatDoor

/- Package sites: expressions. -/
namespace Go.Proofs.YtikffmloeifkpaaGreatDoor
open Go.RowKit Go.Lib Go.Deep Go.ChangeMaps Go.MapKept
variable {H pb nb : Nat} {it vA vF : Value} {m : Int} {fl : List Tr}

theorem six_tag {b : Nat} {w : World} {a : Nd} {l r : Tr} (ho : Own w b a l r) (h : a.tag = 6) : w.cell? ⟨b, 0, none⟩ = some (.int .i64 a.op) ∧ w.cell? ⟨b, 1, none⟩ = some (.int .i64 a.pos) ∧ w.cell? ⟨b, 2, none⟩ = some (valT l) ∧ w.cell? ⟨b, 3, none⟩ = some (valT r) := by
  obtain ⟨cs, hc, h0, h1, h2, h3, _⟩ := own_tag ho (n := 6) h
  exact ⟨by rw [cell_of_row _ _ _ _ _ _ hc]; exact h0, by rw [cell_of_row _ _ _ _ _ _ hc]; exact h1, by rw [cell_of_row _ _ _ _ _ _ hc]; exact h2, by rw [cell_of_row _ _ _ _ _ _ hc]; exact h3⟩
theorem divs_ways (a : Nd) : (divs a = true ∧ (a.op == 30) = true) ∨ (divs a = true ∧ (a.op == 30) = false ∧ (a.op == 31) = true) ∨ (divs a = false ∧ (a.op == 30) = false ∧ (a.op == 31) = false) := by
  unfold divs
  by_cases h1 : a.op = 30
  · left; simp [h1]
  · by_cases h2 : a.op = 31
    · right; left; simp [h2]
    · right; right; simp [h1, h2]

set_option maxRecDepth 100000 in
set_option maxHeartbeats 8000000 in
theorem binary_si {b o : Nat} {a : Nd} {l r : Tr} (ht : a.tag = 6) (hH : Fresh H (.node b o a l r)) (hnd : (ps (.node b o a l r)).Nodup)
    (hl : Ws 0 l ∧ GSi 197 H pb nb it vA vF m fl valT l) (hr : Ws 0 r ∧ GSi 197 H pb nb it vA vF m fl valT r) : GSi 252 H pb nb it vA vF m fl ptrT (.node b o a l r) := by
  intro S w h hi hS
  have uq := uq_of hnd
  have hbH : H ≤ b := hH.2.2 (by unfold placed; omega)
  obtain ⟨hwl, hgl⟩ := hl
  obtain ⟨hwr, hgr⟩ := hr
  obtain ⟨u, p, hvl⟩ := hwl.val (.inl rfl)
  obtain ⟨u2, p2, hvr⟩ := hwr.val (.inl rfl)
  have hlen := ps_len b o a l r
  rw [if_pos ht, if_neg (fun h => h.1 ht)] at hlen
  have hlR := siR_len fl l S
  have hpre : siPre fl a S = S := by unfold siPre; rw [if_neg (by omega), if_neg (by omega), if_neg (by omega)]
  have hpo : po a = [a.pos] := by unfold po; rw [if_pos ht]
  have hcall := hgl S w h hi.1 (by omega)
  obtain ⟨_, _, m2, _⟩ := six_tag hi.2.2 ht
  rw [hvl] at m2 hcall
  have HR : Hid (GSi 197 H pb nb it vA vF m fl valT r) := hgr
  -- behind the left side
  have RK : Hid _ := fun W2 x2 => right_kept (H := H) (W2 := W2) hwr uq hi x2 (by omega : a.tag ≠ 20)
  have KP : Hid (∀ (i : Int) (S2 : Sl) (W2 W3 : World), Fr H (Po a) W2 W3 → IsT W2 (siT fl l S) → IsT W2 r → IsT W3 (siT fl l S) ∧ IsT W3 r) := fun i S2 W2 W3 x k1 k2 =>
    ⟨IsT.fr x (fun t p hp => (Po.body t p hp).pos) ((siT_sh fl l S).ws hwl) k1 (by rw [(siT_sh fl l S).ps]; exact Po.out uq.own_l), IsT.fr x (fun t p hp => (Po.body t p hp).pos) hwr k2 (Po.out uq.own_r)⟩
  have FIN : Hid (∀ (S1 : Sl) (i : Int) (W3 W4 : World), siMid a (siR fl l S) = S1 → siNo fl a S (siR fl l S) = i → Own W3 b { a with site := i } l r → IsT W3 (siT fl l S) → Fr H (Pt (.node b o a l r)) w W3 → SiW H pb nb it vA vF m fl (siR fl r S1) W4 → IsT W4 (siT fl r S1) → Fr H (Pt r) W3 W4 →
      PostS H pb nb it vA vF m fl (Pt (.node b o a l r)) (siT fl (.node b o a l r) S) (siR fl (.node b o a l r) S) w (.returned (.tuple #[])) W4) := by
    intro S1 i W3 W4 e1 e2 o3 i3 x3 h4 i4 x4
    have o4 := own_fr o3 x4 Pt.body (fun p hp ty hq => uq.own_r p hp hq.2) (by show a.tag ≠ 20; omega)
    have l4 := keep_si i3 x4 hwl (siT_sh _ _ _) uq.apart_
    have eR : siR fl (.node b o a l r) S = siR fl r S1 := by show siR fl r (siMid a (siR fl l (siPre fl a S))) = _; rw [hpre, e1]
    have eT : siT fl (.node b o a l r) S = .node b o { a with site := i } (siT fl l S) (siT fl r S1) := by
      show BT.node b o { a with site := siNo fl a S (siR fl l (siPre fl a S)) } (siT fl l (siPre fl a S)) (siT fl r (siMid a (siR fl l (siPre fl a S)))) = _
      rw [hpre, e1, e2]
    rw [eR, eT]
    exact ⟨rfl, h4, ⟨l4, i4, own_sh o4 (siT_sh _ _ _) (siT_sh _ _ _)⟩, x3.trans (x4.mono Pt.right)⟩
  have HT : Hid (a.tag = 6) := ht
  have HB : Hid (H ≤ b) := hbH
  show Calls Tryz.prog 252 #[.pointer (some ⟨nb, 0, none⟩), .pointer (some ⟨b, 0, none⟩)] w _
  have hmid1 : divs a = true → siMid a (siR fl l S) = siR fl l S ++ [(3, a.pos)] := fun hd => by unfold siMid; rw [if_pos ht, if_pos hd]
  have hno1 : divs a = true → siNo fl a S (siR fl l S) = ((siR fl l S).length : Int) := fun hd => by unfold siNo; rw [if_neg (by omega), if_neg (by omega), if_pos ht, if_pos hd]
  have hmid0 : divs a = false → siMid a (siR fl l S) = siR fl l S := fun hd => by unfold siMid; rw [if_pos ht, if_neg (by rw [hd]; decide)]
  have hno0 : divs a = false → siNo fl a S (siR fl l S) = -1 := fun hd => by unfold siNo; rw [if_neg (by omega), if_neg (by omega), if_pos ht, if_neg (by rw [hd]; decide)]
  have hb1 : (siR fl l S).length + 1 + (ps r).length ≤ 1000000 := by omega
  have HMID1 : Hid _ := hmid1
  have HNO1 : Hid _ := hno1
  have HMID0 : Hid _ := hmid0
  have HNO0 : Hid _ := hno0
  have HB1 : Hid ((siR fl l S).length + 1 + (ps r).length ≤ 1000000) := hb1
  clear hgl hgr hwl hwr hi hS uq hnd hH hlen hlR hpre hpo hmid1 hmid0 hno1 hno0 hb1 hbH h
  rcases divs_ways a with ⟨hd, d1⟩ | ⟨hd, d1, d2⟩ | ⟨hd, d1, d2⟩
  all_goals
    go_enter Tryz.func252, Tryz.ntmps252
    go_wp2_with fail
    refine hcall.mono ?_
    rintro e W2 ⟨rfl, h2, i2, x2⟩
    obtain ⟨j2, o2⟩ := RK.out W2 x2
    obtain ⟨h3, x3, o3, ⟨q3, c3⟩, z3⟩ := site_set (o := 4) (i := -1) h2 o2 HB.out (.inl ⟨.inr (.inr HT.out), rfl⟩)
    obtain ⟨i3, j3⟩ := KP.out (-1) S W2 _ x3 i2 j2
    obtain ⟨n0, n1, _, n3⟩ := six_tag o3 HT.out
    have n0 : (W2.setCell ⟨b, 4, none⟩ (.int .i64 (-1))).cell? ⟨b, 0, none⟩ = some (.int .i64 a.op) := n0
    have n1 : (W2.setCell ⟨b, 4, none⟩ (.int .i64 (-1))).cell? ⟨b, 1, none⟩ = some (.int .i64 a.pos) := n1
    have X3 : Hid (Fr H (Pt (.node b o a l r)) w (W2.setCell ⟨b, 4, none⟩ (.int .i64 (-1)))) := (x2.mono Pt.left).trans (x3.mono Po.to)
    have HO3 : Hid (Own (W2.setCell ⟨b, 4, none⟩ (.int .i64 (-1))) b { a with site := (-1 : Int) } l r) := o3
    clear o3 x3 x2 o2 h2 i2 j2
    go_upto_region 2 with fail
    generalize W2.setCell ⟨b, 4, none⟩ (.int .i64 (-1)) = W3 at *
  · go_wp2_with fail
    refine (add_any 3 a.pos W3 h3 (by have := HB1.out; omega)).mono ?_
    rintro e W4 ⟨rfl, h4, x4⟩
    have o4 : Own W4 b { a with site := (-1 : Int) } l r := own_fr HO3.out x4 F0.body (fun p hp ty hq => hq) (by have := HT.out; show a.tag ≠ 20; omega)
    have i4 : IsT W4 (siT fl l S) ∧ IsT W4 r := KP.out 0 S W3 W4 (x4.mono F0.to) i3 j3
    obtain ⟨h5, x5, o5, ⟨q5, c5⟩, z5⟩ := site_set (o := 4) (i := ((siR fl l S).length : Int)) h4 o4 HB.out (.inl ⟨.inr (.inr HT.out), rfl⟩)
    obtain ⟨i5, j5⟩ := KP.out 0 S W4 _ x5 i4.1 i4.2
    obtain ⟨_, _, _, n5⟩ := six_tag o5 HT.out
    have X5 : Hid (Fr H (Pt (.node b o a l r)) w (W4.setCell ⟨b, 4, none⟩ (.int .i64 ((siR fl l S).length : Int)))) := (X3.out.trans (x4.mono F0.to)).trans ((show Fr H (Po a) W4 _ from x5).mono Po.to)
    have HO5 : Hid (Own (W4.setCell ⟨b, 4, none⟩ (.int .i64 ((siR fl l S).length : Int))) b { a with site := ((siR fl l S).length : Int) } l r) := o5
    have hcall2 := HR.out _ _ h5 j5 (by have := HB1.out; rw [List.length_append]; simp only [List.length_cons, List.length_nil]; omega)
    rw [hvr] at n5 hcall2
    clear o4 o5 x4 x5 i4 h4 HO3 X3 n0 n1 n3 i3 j3 h3 j5
    go_upto_region 4 with fail
    generalize W4.setCell ⟨b, 4, none⟩ (.int .i64 ((siR fl l S).length : Int)) = W5 at *
    go_wp2_with fail
    refine hcall2.mono ?_
    rintro e W6 ⟨rfl, h6, i6, x6⟩
    go_wp2
    go_end0
    exact FIN.out _ _ W5 W6 (HMID1.out hd) (HNO1.out hd) HO5.out i5 X5.out h6 i6 x6
  · go_wp2_with fail
    refine (add_any 3 a.pos W3 h3 (by have := HB1.out; omega)).mono ?_
    rintro e W4 ⟨rfl, h4, x4⟩
    have o4 : Own W4 b { a with site := (-1 : Int) } l r := own_fr HO3.out x4 F0.body (fun p hp ty hq => hq) (by have := HT.out; show a.tag ≠ 20; omega)
    have i4 : IsT W4 (siT fl l S) ∧ IsT W4 r := KP.out 0 S W3 W4 (x4.mono F0.to) i3 j3
    obtain ⟨h5, x5, o5, ⟨q5, c5⟩, z5⟩ := site_set (o := 4) (i := ((siR fl l S).length : Int)) h4 o4 HB.out (.inl ⟨.inr (.inr HT.out), rfl⟩)
    obtain ⟨i5, j5⟩ := KP.out 0 S W4 _ x5 i4.1 i4.2
    obtain ⟨_, _, _, n5⟩ := six_tag o5 HT.out
    have X5 : Hid (Fr H (Pt (.node b o a l r)) w (W4.setCell ⟨b, 4, none⟩ (.int .i64 ((siR fl l S).length : Int)))) := (X3.out.trans (x4.mono F0.to)).trans ((show Fr H (Po a) W4 _ from x5).mono Po.to)
    have HO5 : Hid (Own (W4.setCell ⟨b, 4, none⟩ (.int .i64 ((siR fl l S).length : Int))) b { a with site := ((siR fl l S).length : Int) } l r) := o5
    have hcall2 := HR.out _ _ h5 j5 (by have := HB1.out; rw [List.length_append]; simp only [List.length_cons, List.length_nil]; omega)
    rw [hvr] at n5 hcall2
    clear o4 o5 x4 x5 i4 h4 HO3 X3 n0 n1 n3 i3 j3 h3 j5
    go_upto_region 4 with fail
    generalize W4.setCell ⟨b, 4, none⟩ (.int .i64 ((siR fl l S).length : Int)) = W5 at *
    go_wp2_with fail
    refine hcall2.mono ?_
    rintro e W6 ⟨rfl, h6, i6, x6⟩
    go_wp2
    go_end0
    exact FIN.out _ _ W5 W6 (HMID1.out hd) (HNO1.out hd) HO5.out i5 X5.out h6 i6 x6
  · have hcall2 := HR.out _ _ h3 j3 (by have := HB1.out; omega)
    rw [hvr] at n3 hcall2
    clear n1 h3 j3
    go_wp2_with fail
    refine hcall2.mono ?_
    rintro e W6 ⟨rfl, h6, i6, x6⟩
    go_wp2
    go_end0
    exact FIN.out _ _ W3 W6 (HMID0.out hd) (HNO0.out hd) HO3.out i3 X3.out h6 i6 x6
end Go.Proofs.YtikffmloeifkpaaGreatDoor

/- Package sites: a call. -/
namespace Go.Proofs.YtikffmloeifkpaaGreatDoor
open Go.RowKit Go.Lib Go.Deep Go.ChangeMaps Go.MapKept
variable {H pb nb : Nat} {it vA vF : Value} {m : Int} {fl : List Tr}

theorem si_list {b o : Nat} {a : Nd} {e r : Tr} (h : a.tag = 15 ∨ a.tag = 20 ∨ a.tag = 18) (S : Sl) : siR fl (.node b o a e r) S = siR fl r (siR fl e S) ∧ siT fl (.node b o a e r) S = .node b o a (siT fl e S) (siT fl r (siR fl e S)) := by
  obtain ⟨e1, _, _⟩ := siPlain (fl := fl) (a := a) (S := S) (S1 := S) (by omega)
  have e2 : ∀ S1, siMid a S1 = S1 := fun S1 => (siPlain (fl := fl) (a := a) (S := S) (S1 := S1) (by omega)).2.1
  have e3 : ∀ S1, siNo fl a S S1 = a.site := fun S1 => (siPlain (fl := fl) (a := a) (S := S) (S1 := S1) (by omega)).2.2
  refine ⟨by show siR fl r (siMid a (siR fl e (siPre fl a S))) = _; rw [e1, e2], ?_⟩
  show BT.node b o { a with site := siNo fl a S (siR fl e (siPre fl a S)) } (siT fl e (siPre fl a S)) (siT fl r (siMid a (siR fl e (siPre fl a S)))) = _
  rw [e1, e2, e3]
/-- A list gone through up to element i. -/
structure LpS (H pb nb : Nat) (it vA vF : Value) (m : Int) (fl : List Tr) (L : Tr) (S1 : Sl) (W1 : World) (i : Nat) (si : Sl) (wr : World) : Prop where
  rs : SiW H pb nb it vA vF m fl si wr
  fr : Fr H (Pt L) W1 wr
  rest : IsT wr (dropL i L)
  wand : ∀ w2, Fr H (Pt (dropL i L)) wr w2 → IsT w2 (siT fl (dropL i L) si) → IsT w2 (siT fl L S1)
  run : siR fl (dropL i L) si = siR fl L S1
variable {L : Tr} {S1 si : Sl} {W1 wr w3 : World} {i : Nat}
theorem LpS.start (h : SiW H pb nb it vA vF m fl S1 W1) (hi : IsT W1 L) : LpS H pb nb it vA vF m fl L S1 W1 0 S1 W1 := ⟨h, Fr.refl _ _ _, hi, fun _ _ h => h, rfl⟩
theorem LpS.step (h : LpS H pb nb it vA vF m fl L S1 W1 i si wr) {s : Nat} (hs : s = 13 ∨ s = 14 ∨ s = 15 ∨ s = 16 ∨ s = 18) (hw : Ws s L) (hnd : (ps L).Nodup) {b o : Nat} {a : Nd} {e r : Tr} (hd : dropL i L = .node b o a e r) (hd2 : dropL (i + 1) L = r)
    (h1 : SiW H pb nb it vA vF m fl (siR fl e si) w3) (h2 : IsT w3 (siT fl e si)) (h3 : Fr H (Pt e) wr w3) : LpS H pb nb it vA vF m fl L S1 W1 (i + 1) (siR fl e si) w3 := by
  have hwd := ws_drop hs i _ hw
  have uq := nd_drop i _ hnd
  have hps := ps_drop i L
  obtain ⟨_, hfr, rest, wand, run⟩ := h
  rw [hd] at hwd uq hps rest wand run
  obtain ⟨h15, hwe, hwr⟩ := ws_rest hs hwd
  have uq := uq_of uq
  rw [(si_list (.inl h15) si).2] at wand
  rw [(si_list (.inl h15) si).1] at run
  refine ⟨h1, hfr.trans (h3.mono fun t p hp => ⟨hp.1, hps p (ps_left hp.2)⟩), ?_, fun w2 hx hi => ?_, ?_⟩
  · rw [hd2]
    exact IsT.fr h3 (fun t p hp => (Pt.body t p hp).pos) hwr rest.2.1 (Pt.out uq.apart)
  · rw [hd2] at hx hi
    refine wand w2 ((h3.mono Pt.left).trans (hx.mono Pt.right)) ⟨?_, hi, ?_⟩
    · exact keep_si h2 hx hwe (siT_sh _ _ _) uq.apart_
    · unfold Own
      rw [h15]
      trivial
  · rw [hd2]; exact run
theorem LpS.fin (h : LpS H pb nb it vA vF m fl L S1 W1 (lenL L) si wr) : si = siR fl L S1 ∧ IsT wr (siT fl L S1) := by
  obtain ⟨_, _, _, wand, run⟩ := h
  rw [dropL_end] at wand run
  exact ⟨run, wand wr (Fr.refl _ _ _) trivial⟩
theorem lst_siR {s : Nat} {t : Tr} (hs : s = 3 ∨ s = 4 ∨ s = 5 ∨ s = 6 ∨ s = 8) (h : Ws s t) (S : Sl) : siR fl t S = siR fl (elems t) S := by
  rcases h.lst hs with rfl | ⟨b, o, a, l, rfl, ht, _⟩
  · rfl
  · rw [(si_list (.inr (.inl ht)) S).1]; rfl
theorem lst_si {s : Nat} {t : Tr} {P : TypeId → Int → Prop} {w w' : World} {S : Sl} (hs : s = 3 ∨ s = 4 ∨ s = 5 ∨ s = 6 ∨ s = 8) (h : Ws s t) (hi : IsT w t) (hx : Fr H P w w') (hP : ∀ t p, P t p → bodyTyp t) (hd : IsT w' (siT fl (elems t) S)) : IsT w' (siT fl t S) := by
  rcases h.lst hs with rfl | ⟨b, o, a, l, rfl, ht, hl⟩
  · trivial
  · rw [(si_list (.inr (.inl ht)) S).2]
    have ho := hi.2.2
    have hne : l ≠ .nil := (own_tag ho (n := 20) ht).1
    have hpo : po a = [] := by unfold po; rw [ht]; rfl
    have o2 : Own w' b a l .nil := OwnN.fr hx (fun t p hp => (hP t p hp).pos) ho (fun p hp => by rw [hpo] at hp; cases hp) (fun e => ⟨h.list e hne, fun p _ hq => absurd (hP _ _ hq) (by unfold bodyTyp; decide)⟩)
    exact ⟨hd, trivial, own_sh o2 (siT_sh _ _ _) (Sh.refl _)⟩
/-- A function, where it lies. -/
theorem FnsW.at {w : World} (h : FnsW H vF fl w) {j : Nat} (hj : j < fl.length) : ∃ g cp b a l p q ap cpp, vF = .slice (some ⟨g, 0, none⟩) fl.length cp ∧ w.cell? ⟨g, j, none⟩ = some (.pointer (some ⟨b, 0, none⟩)) ∧ FnW w b a l p q ∧ valT p = .slice ap (nwOf fl j) cpp ∧ Ws 4 q ∧ nwOf fl j ≤ 10000 := by
  obtain ⟨b, o, a, l, x, y, z, p, q, e, hf, hwp, hwq⟩ := h.own fl[j] (List.getElem_mem hj)
  have hget : fl[j]? = some (.node b o a l (.node x y z p q)) := by rw [List.getElem?_eq_getElem hj, e]
  have hnw : nwOf fl (j : Int) = lenV p := by unfold nwOf; simp [hget]
  obtain ⟨ap, cpp, hvp⟩ := hwp.lstval (.inr (.inr (.inl rfl)))
  obtain ⟨g, cp, hv⟩ : ∃ g cp, vF = .slice (some ⟨g, 0, none⟩) fl.length cp := by
    obtain ⟨ao, cp, e1, e2⟩ := slice_any h.row
    rcases e2 with e2 | ⟨g, e2⟩
    · omega
    · exact ⟨g, cp, by rw [e1, e2]⟩
  have hc := h.row
  rw [hv] at hc
  have hcell := hc.cellAt j (by omega)
  refine ⟨g, cp, b, a, l, p, q, ap, cpp, hv, ?_, hf, by rw [hnw]; exact hvp, hwq, by rw [hnw]; exact lenV_le (.inr (.inr (.inl rfl))) hwp⟩
  rw [hcell, List.getElem?_map, hget]
  rfl

set_option maxRecDepth 100000 in
set_option maxHeartbeats 8000000 in
theorem call_si {b o : Nat} {a : Nd} {l r : Tr} (ht : a.tag = 3) (hw : Ws 0 (.node b o a l r)) (hH : Fresh H (.node b o a l r)) (hnd : (ps (.node b o a l r)).Nodup) (hcv : 0 ≤ a.which ∧ a.which < fl.length)
    (hA : AllG (fun e => Ws 0 e ∧ GSi 197 H pb nb it vA vF m fl valT e) (elems l)) : GSi 251 H pb nb it vA vF m fl ptrT (.node b o a l r) := by
  obtain ⟨hoka, sx, sy, hsig, hwl, hwr⟩ := hw.parts
  rw [ht] at hsig
  cases hsig
  obtain rfl := hwr.nil_of
  have uq := uq_of hnd
  have hbH : H ≤ b := hH.2.2 (by unfold placed; omega)
  intro S w h hi hS
  obtain ⟨j, hj⟩ : ∃ j : Nat, a.which = j := ⟨a.which.toNat, by omega⟩
  have hjl : j < fl.length := by omega
  obtain ⟨ao, cp, hvl⟩ := hwl.lstval (.inl rfl)
  have hps := ps_elems (.inl rfl) hwl
  have hndl : (ps (elems l)).Nodup := by rw [← hps]; exact uq.left
  have hwel := hwl.elems (.inl rfl)
  have hlen := ps_len b o a l .nil
  rw [if_neg (by omega), if_pos ⟨by omega, by rw [ht]; rfl⟩] at hlen
  have isel : ∀ W1, IsT W1 l → IsT W1 (elems l) := fun W1 h => by
    cases l with
    | nil => trivial
    | node => exact h.1
  have cellsO : ∀ (W : World) (i : Int), Own W b { a with site := i } l .nil → W.cell? ⟨b, 1, none⟩ = some (.int .i64 a.npos) ∧ W.cell? ⟨b, 2, none⟩ = some (.int .i64 a.which) ∧ W.cell? ⟨b, 3, none⟩ = some (valT l) := fun W i ho => by
    obtain ⟨cs, hc, hn, h4, _⟩ := own_tag ho (n := 3) ht
    exact ⟨by rw [cell_of_row _ _ _ _ _ _ hc]; exact hn.2.1, by rw [cell_of_row _ _ _ _ _ _ hc]; exact hn.2.2, by rw [cell_of_row _ _ _ _ _ _ hc]; exact h4⟩
  have KP : Hid (∀ (W2 W3 : World), Fr H (Po a) W2 W3 → IsT W2 l → IsT W3 l) := fun W2 W3 x k1 => IsT.fr x (fun t p hp => (Po.body t p hp).pos) hwl k1 (Po.out uq.own_l)
  have FIN : Hid (∀ (S1 : Sl) (i : Int) (W3 W4 : World), siPre fl a S = S1 → siNo fl a S S = i → Own W3 b { a with site := i } l .nil → Fr H (Pt (.node b o a l .nil)) w W3 → IsT W3 l → Fr H (Pt (elems l)) W3 W4 → SiW H pb nb it vA vF m fl (siR fl (elems l) S1) W4 → IsT W4 (siT fl (elems l) S1) →
      PostS H pb nb it vA vF m fl (Pt (.node b o a l .nil)) (siT fl (.node b o a l .nil) S) (siR fl (.node b o a l .nil) S) w (.returned (.tuple #[])) W4) := by
    intro S1 i W3 W4 e1 e2 o3 x3 i3 x4 h4 i4
    have x4' : Fr H (Pt l) W3 W4 := x4.mono fun t p hp => ⟨hp.1, by rw [hps]; exact hp.2⟩
    have o4 := own_fr o3 x4' Pt.body (fun p hp ty hq => uq.own_l p hp hq.2) (by show a.tag ≠ 20; omega)
    have hmid : ∀ S2, siMid a S2 = S2 := fun S2 => by unfold siMid; rw [if_neg (by omega)]
    have hno : ∀ S2, siNo fl a S S2 = i := fun S2 => by
      have h23 : ¬ (a.tag = 2 ∨ a.tag = 10) := by omega
      rw [← e2]; unfold siNo; rw [if_neg h23, if_pos ht, if_neg h23, if_pos ht]
    have eR : siR fl (.node b o a l .nil) S = siR fl (elems l) S1 := by show siR fl .nil (siMid a (siR fl l (siPre fl a S))) = _; rw [hmid, e1, lst_siR (.inl rfl) hwl]; rfl
    have eT : siT fl (.node b o a l .nil) S = .node b o { a with site := i } (siT fl l S1) .nil := by
      show BT.node b o { a with site := siNo fl a S (siR fl l (siPre fl a S)) } (siT fl l (siPre fl a S)) _ = _
      rw [e1, hno]; rfl
    rw [eR, eT]
    exact ⟨rfl, h4, ⟨lst_si (.inl rfl) hwl i3 x4' Pt.body i4, trivial, own_sh o4 (siT_sh _ _ _) (Sh.refl _)⟩, x3.trans (x4'.mono Pt.left)⟩
  -- the first store
  obtain ⟨h1, x1, o1, ⟨q1, c1⟩, z1⟩ := site_set (o := 4) (i := -1) h hi.2.2 hbH (.inl ⟨.inr (.inl ht), rfl⟩)
  have i1 := KP.out w _ x1 hi.1
  obtain ⟨u1, u2, n3⟩ := cellsO _ _ o1
  have n1 : (w.setCell ⟨b, 4, none⟩ (.int .i64 (-1))).cell? ⟨b, 1, none⟩ = some (.int .i64 a.npos) := u1
  have n2 : (w.setCell ⟨b, 4, none⟩ (.int .i64 (-1))).cell? ⟨b, 2, none⟩ = some (.int .i64 (j : Int)) := by rw [← hj]; exact u2
  clear u1 u2
  have X1 : Hid (Fr H (Pt (.node b o a l .nil)) w (w.setCell ⟨b, 4, none⟩ (.int .i64 (-1)))) := x1.mono Po.to
  have HO1 : Hid (Own (w.setCell ⟨b, 4, none⟩ (.int .i64 (-1))) b { a with site := (-1 : Int) } l .nil) := o1
  have hnw : nwOf fl a.which = nwOf fl (j : Int) := by rw [hj]
  have hpre1 : 0 < nwOf fl (j : Int) → siPre fl a S = S ++ [(4, a.npos)] := fun hh => by unfold siPre; rw [if_neg (by omega), if_neg (by omega), if_pos ht, hnw, if_pos hh]
  have hno1 : 0 < nwOf fl (j : Int) → siNo fl a S S = (S.length : Int) := fun hh => by unfold siNo; rw [if_neg (by omega), if_pos ht, hnw, if_pos hh]
  have hpre0 : ¬ 0 < nwOf fl (j : Int) → siPre fl a S = S := fun hh => by unfold siPre; rw [if_neg (by omega), if_neg (by omega), if_pos ht, hnw, if_neg hh]
  have hno0 : ¬ 0 < nwOf fl (j : Int) → siNo fl a S S = -1 := fun hh => by unfold siNo; rw [if_neg (by omega), if_pos ht, hnw, if_neg hh]
  have HP1 : Hid _ := hpre1
  have HN1 : Hid _ := hno1
  have HP0 : Hid _ := hpre0
  have HN0 : Hid _ := hno0
  have HT : Hid (a.tag = 3) := ht
  have HBH : Hid (H ≤ b) := hbH
  have HCO : Hid _ := cellsO
  have HISE : Hid _ := isel
  have HND : Hid ((ps (elems l)).Nodup) := hndl
  have HWE : Hid (Ws 13 (elems l)) := hwel
  have HWL : Hid (Ws 3 l) := hwl
  have HLB : Hid (S.length + 1 + (ps (elems l)).length ≤ 1000000) := by rw [Hid, ← hps]; omega
  have HLN : Hid (lenV l ≤ 10000) := lenV_le (.inl rfl) hwl
  show Calls Tryz.prog 251 #[.pointer (some ⟨nb, 0, none⟩), .pointer (some ⟨b, 0, none⟩)] w _
  clear hpre1 hno1 hpre0 hno0 cellsO isel hndl hwel hwl hps hlen uq hnd hH hw hoka hcv x1 o1 hS hi hnw hj ht hbH
  go_enter Tryz.func251, Tryz.ntmps251
  go_upto_region 1 with fail
  generalize w.setCell ⟨b, 4, none⟩ (.int .i64 (-1)) = W1 at *
  obtain ⟨g, cpF, bf, af, lf, pf, qf, ap, cpp, hvF, hgc, hfn, hvp, _, hnwl⟩ := h1.fns.at hjl
  obtain ⟨_, _, _, k4, _, _, _⟩ := hfn.cells
  rw [hvp] at k4
  have c0 : W1.cell? ⟨nb, 0, none⟩ = some (.pointer (some ⟨pb, 0, none⟩)) := by rw [cell_of_row _ _ _ _ _ _ h1.blk]; rfl
  have p2 : W1.cell? ⟨pb, 2, none⟩ = some vF := by
    obtain ⟨vS, hp, _⟩ := h1.prog
    rw [cell_of_row _ _ _ _ _ _ hp]; rfl
  rw [hvF] at p2
  have hjI : (j : Int) < (fl.length : Int) := by omega
  clear hfn hvp hvF c1 z1
  by_cases hk : 0 < nwOf fl (j : Int)
  · have hkI : (0 : Int) < (nwOf fl (j : Int) : Int) := by omega
    go_quiet (fail)
    have h1d := h1.drewN nq
    have x1d : Fr H F0 W1 (W1.drewN nq) := (Fr.refl _ _ _).drewN nq
    have o1d : Own (W1.drewN nq) b { a with site := (-1 : Int) } l .nil := own_fr HO1.out x1d F0.body (fun p hp ty hq => hq) (by have := HT.out; show a.tag ≠ 20; omega)
    have i1d : IsT (W1.drewN nq) l := KP.out W1 _ (x1d.mono F0.to) i1
    have X1d : Hid (Fr H (Pt (.node b o a l .nil)) w (W1.drewN nq)) := X1.out.trans (x1d.mono F0.to)
    have n1d : (W1.drewN nq).cell? ⟨b, 1, none⟩ = some (.int .i64 a.npos) := n1
    clear n1 n2 n3 i1 h1 X1 HO1 x1d c0 p2 hgc k4
    generalize W1.drewN nq = W2 at *
    go_wp2_with fail
    refine (add_any 4 a.npos W2 h1d (by have := HLB.out; omega)).mono ?_
    rintro e W4 ⟨rfl, h4, x4⟩
    have o4 : Own W4 b { a with site := (-1 : Int) } l .nil := own_fr o1d x4 F0.body (fun p hp ty hq => hq) (by have := HT.out; show a.tag ≠ 20; omega)
    have i4 := KP.out W2 W4 (x4.mono F0.to) i1d
    obtain ⟨h5, x5, o5, ⟨q5, c5⟩, z5⟩ := site_set (o := 4) (i := (S.length : Int)) h4 o4 HBH.out (.inl ⟨.inr (.inl HT.out), rfl⟩)
    have i5 := KP.out W4 _ x5 i4
    obtain ⟨_, _, m3⟩ := HCO.out _ _ o5
    rw [hvl] at m3
    have X5 : Hid (Fr H (Pt (.node b o a l .nil)) w (W4.setCell ⟨b, 4, none⟩ (.int .i64 (S.length : Int)))) := (X1d.out.trans (x4.mono F0.to)).trans ((show Fr H (Po a) W4 _ from x5).mono Po.to)
    have HO5 : Hid (Own (W4.setCell ⟨b, 4, none⟩ (.int .i64 (S.length : Int))) b { a with site := (S.length : Int) } l .nil) := o5
    clear o4 o5 x4 x5 i4 h4 X1d o1d i1d h1d n1d
    go_upto_region 3 with fail
    generalize W4.setCell ⟨b, 4, none⟩ (.int .i64 (S.length : Int)) = W5 at *
    obtain ⟨SS, hSS⟩ : ∃ SS, SS = S ++ [(4, a.npos)] := ⟨_, rfl⟩
    rw [← hSS] at h5
    have HB : Hid (SS.length + (ps (elems l)).length ≤ 1000000) := by rw [Hid, hSS, List.length_append]; simp only [List.length_cons, List.length_nil]; exact HLB.out
    have HPRE : Hid (siPre fl a S = SS) := by rw [Hid, hSS]; exact HP1.out hk
    have HNO : Hid (siNo fl a S S = (S.length : Int)) := HN1.out hk
    clear hSS
    have HI5 : Hid (IsT W5 l) := i5
    have L0 := LpS.start (L := elems l) h5 (HISE.out _ i5)
    have FIN5 : Hid _ := fun W6 => FIN.out SS _ W5 W6 HPRE.out HNO.out HO5.out X5.out i5
    have hlb := HB.out
    have hln := HLN.out
    clear h5 i5 X5 HO5 FIN KP HPRE HNO
    go_wp2_with fail
    go_loopg [43] (lenV l) (fun m' v wr => ∃ (i : Nat) (si : Sl), v = .int .i64 i ∧ i ≤ lenV l ∧ lenV l ≤ i + m' ∧ si.length + (ps (dropL i (elems l))).length ≤ 1000000 ∧ LpS H pb nb it vA vF m fl (elems l) SS W5 i si wr)
    case atStart => exact ⟨0, SS, rfl, Nat.zero_le _, by omega, hlb, L0⟩
    case round =>
      clear L0 m3 hlb
      obtain ⟨i, si, rfl, hle, hm, hb, LP⟩ := hrel
      have HLP : Hid _ := LP
      by_cases hlt : i < lenV l
      · have hltI : (i : Int) < (lenV l : Int) := by omega
        obtain ⟨b2, o2, a2, e2, r2, hd, hd2⟩ := dropL_lt i (elems l) (by rw [← lenV_elems]; exact hlt)
        have hAi := AllG.drop i _ hA
        rw [hd] at hAi hb
        obtain ⟨h15, ⟨hE, hG⟩, _⟩ := hAi
        obtain ⟨gg, rfl, hcell⟩ := lst_cell (.inl rfl) HWL.out HI5.out LP.fr Pt.body hvl hd (by
          cases e2 with
          | nil => exact absurd hE (by unfold Ws nilOk; omega)
          | node b o a l r =>
            obtain ⟨_, x, y, e, _⟩ := hE.parts
            exact ⟨b, o, a, l, r, rfl, fun h => (by rw [h] at e; cases e), fun h => (by rw [h] at e; cases e)⟩)
        obtain ⟨u, p, hve⟩ := hE.val (.inl rfl)
        have hie := LP.rest
        rw [hd] at hie
        have hpl := ps_len b2 o2 a2 e2 r2
        rw [if_neg (by omega), if_neg (by rw [h15]; intro h; exact absurd h.2 (by decide))] at hpl
        have hsl := siR_len fl e2 si
        have HB3 : Hid ((siR fl e2 si).length + (ps (dropL (i + 1) (elems l))).length ≤ 1000000) := by rw [Hid, hd2]; omega
        have hcall := hG si wr LP.rs hie.1 (by omega)
        rw [hve] at hcell hcall
        have HSTEP : Hid _ := fun w3 => HLP.out.step (w3 := w3) (.inl rfl) HWE.out HND.out hd hd2
        clear hG hE hd hd2 hie LP hpl hsl hb
        go_wp2_with fail
        refine hcall.mono ?_
        rintro e W6 ⟨rfl, h6, i6, x6⟩
        obtain ⟨m', rfl⟩ : ∃ m', gk = m' + 1 := ⟨gk - 1, by omega⟩
        have fin : ∃ (i' : Nat) (si : Sl), Value.int .i64 ((i : Int) + 1) = .int .i64 i' ∧ i' ≤ lenV l ∧ lenV l ≤ i' + m' ∧ si.length + (ps (dropL i' (elems l))).length ≤ 1000000 ∧ LpS H pb nb it vA vF m fl (elems l) SS W5 i' si W6 :=
          ⟨i + 1, _, by simp, by omega, by omega, HB3.out, HSTEP.out W6 h6 i6 x6⟩
        clear HSTEP HLP h6 i6 x6 HB3
        go_wp2
        go_roundg m'
        case rel => exact fin
        case measure => omega
      · have hltI : ¬ (i : Int) < (lenV l : Int) := by omega
        have hi2 : i = lenL (elems l) := by rw [← lenV_elems]; omega
        have fin : PostS H pb nb it vA vF m fl (Pt (.node b o a l .nil)) (siT fl (.node b o a l .nil) S) (siR fl (.node b o a l .nil) S) w (.returned (.tuple #[])) wr := by
          subst hi2
          obtain ⟨e1, e2⟩ := LP.fin
          have hr := LP.rs
          rw [e1] at hr
          exact FIN5.out wr LP.fr hr e2
        clear hi2 LP HLP FIN5
        go_wp2
        go_end0
        exact fin
  · have hkI : ¬ (0 : Int) < (nwOf fl (j : Int) : Int) := by omega
    go_quiet (fail)
    have h5 := h1.drewN nq
    have x1d : Fr H F0 W1 (W1.drewN nq) := (Fr.refl _ _ _).drewN nq
    have HO5 : Hid (Own (W1.drewN nq) b { a with site := (-1 : Int) } l .nil) := own_fr HO1.out x1d F0.body (fun p hp ty hq => hq) (by have := HT.out; show a.tag ≠ 20; omega)
    have i5 : IsT (W1.drewN nq) l := KP.out W1 _ (x1d.mono F0.to) i1
    have X5 : Hid (Fr H (Pt (.node b o a l .nil)) w (W1.drewN nq)) := X1.out.trans (x1d.mono F0.to)
    obtain ⟨_, _, m3⟩ := HCO.out _ _ HO5.out
    rw [hvl] at m3
    clear n1 n2 n3 i1 h1 X1 HO1 x1d c0 p2 hgc k4
    generalize W1.drewN nq = W5 at *
    obtain ⟨SS, hSS⟩ : ∃ SS, SS = S := ⟨_, rfl⟩
    rw [← hSS] at h5
    have HB : Hid (SS.length + (ps (elems l)).length ≤ 1000000) := by rw [Hid, hSS]; have := HLB.out; omega
    have HPRE : Hid (siPre fl a S = SS) := by rw [Hid, hSS]; exact HP0.out hk
    have HNO : Hid (siNo fl a S S = -1) := HN0.out hk
    clear hSS
    have HI5 : Hid (IsT W5 l) := i5
    have L0 := LpS.start (L := elems l) h5 (HISE.out _ i5)
    have FIN5 : Hid _ := fun W6 => FIN.out SS _ W5 W6 HPRE.out HNO.out HO5.out X5.out i5
    have hlb := HB.out
    have hln := HLN.out
    clear h5 i5 X5 HO5 FIN KP HPRE HNO
    go_wp2_with fail
    go_loopg [43] (lenV l) (fun m' v wr => ∃ (i : Nat) (si : Sl), v = .int .i64 i ∧ i ≤ lenV l ∧ lenV l ≤ i + m' ∧ si.length + (ps (dropL i (elems l))).length ≤ 1000000 ∧ LpS H pb nb it vA vF m fl (elems l) SS W5 i si wr)
    case atStart => exact ⟨0, SS, rfl, Nat.zero_le _, by omega, hlb, L0⟩
    case round =>
      clear L0 m3 hlb
      obtain ⟨i, si, rfl, hle, hm, hb, LP⟩ := hrel
      have HLP : Hid _ := LP
      by_cases hlt : i < lenV l
      · have hltI : (i : Int) < (lenV l : Int) := by omega
        obtain ⟨b2, o2, a2, e2, r2, hd, hd2⟩ := dropL_lt i (elems l) (by rw [← lenV_elems]; exact hlt)
        have hAi := AllG.drop i _ hA
        rw [hd] at hAi hb
        obtain ⟨h15, ⟨hE, hG⟩, _⟩ := hAi
        obtain ⟨gg, rfl, hcell⟩ := lst_cell (.inl rfl) HWL.out HI5.out LP.fr Pt.body hvl hd (by
          cases e2 with
          | nil => exact absurd hE (by unfold Ws nilOk; omega)
          | node b o a l r =>
            obtain ⟨_, x, y, e, _⟩ := hE.parts
            exact ⟨b, o, a, l, r, rfl, fun h => (by rw [h] at e; cases e), fun h => (by rw [h] at e; cases e)⟩)
        obtain ⟨u, p, hve⟩ := hE.val (.inl rfl)
        have hie := LP.rest
        rw [hd] at hie
        have hpl := ps_len b2 o2 a2 e2 r2
        rw [if_neg (by omega), if_neg (by rw [h15]; intro h; exact absurd h.2 (by decide))] at hpl
        have hsl := siR_len fl e2 si
        have HB3 : Hid ((siR fl e2 si).length + (ps (dropL (i + 1) (elems l))).length ≤ 1000000) := by rw [Hid, hd2]; omega
        have hcall := hG si wr LP.rs hie.1 (by omega)
        rw [hve] at hcell hcall
        have HSTEP : Hid _ := fun w3 => HLP.out.step (w3 := w3) (.inl rfl) HWE.out HND.out hd hd2
        clear hG hE hd hd2 hie LP hpl hsl hb
        go_wp2_with fail
        refine hcall.mono ?_
        rintro e W6 ⟨rfl, h6, i6, x6⟩
        obtain ⟨m', rfl⟩ : ∃ m', gk = m' + 1 := ⟨gk - 1, by omega⟩
        have fin : ∃ (i' : Nat) (si : Sl), Value.int .i64 ((i : Int) + 1) = .int .i64 i' ∧ i' ≤ lenV l ∧ lenV l ≤ i' + m' ∧ si.length + (ps (dropL i' (elems l))).length ≤ 1000000 ∧ LpS H pb nb it vA vF m fl (elems l) SS W5 i' si W6 :=
          ⟨i + 1, _, by simp, by omega, by omega, HB3.out, HSTEP.out W6 h6 i6 x6⟩
        clear HSTEP HLP h6 i6 x6 HB3
        go_wp2
        go_roundg m'
        case rel => exact fin
        case measure => omega
      · have hltI : ¬ (i : Int) < (lenV l : Int) := by omega
        have hi2 : i = lenL (elems l) := by rw [← lenV_elems]; omega
        have fin : PostS H pb nb it vA vF m fl (Pt (.node b o a l .nil)) (siT fl (.node b o a l .nil) S) (siR fl (.node b o a l .nil) S) w (.returned (.tuple #[])) wr := by
          subst hi2
          obtain ⟨e1, e2⟩ := LP.fin
          have hr := LP.rs
          rw [e1] at hr
          exact FIN5.out wr LP.fr hr e2
        clear hi2 LP HLP FIN5
        go_wp2
        go_end0
        exact fin
end Go.Proofs.YtikffmloeifkpaaGreatDoor

/- Package sites: an expression, a condition. -/
namespace Go.Proofs.YtikffmloeifkpaaGreatDoor
open Go.RowKit Go.Lib Go.Deep Go.ChangeMaps Go.MapKept
variable {H pb nb : Nat} {it vA vF : Value} {m : Int} {fl : List Tr}

/-- A part of two parts that gets no number. -/
theorem two_si {b o : Nat} {a : Nd} {l r : Tr} {w W2 W3 : World} {S : Sl} {sl : Nat} (hwl : Ws sl l) (uq : Uq a l r) (hne : a.tag ≠ 20) (hp : a.tag ≠ 2 ∧ a.tag ≠ 3 ∧ a.tag ≠ 6 ∧ a.tag ≠ 10)
    (ho : Own w b a l r) (x2 : Fr H (Pt l) w W2) (i2 : IsT W2 (siT fl l S)) (x3 : Fr H (Pt r) W2 W3) (i3 : IsT W3 (siT fl r (siR fl l S))) :
    IsT W3 (siT fl (.node b o a l r) S) ∧ Fr H (Pt (.node b o a l r)) w W3 := by
  have o2 := own_fr ho x2 Pt.body (fun p hp ty hq => uq.own_l p hp hq.2) hne
  have o3 := own_fr o2 x3 Pt.body (fun p hp ty hq => uq.own_r p hp hq.2) hne
  have l3 := keep_si i2 x3 hwl (siT_sh _ _ _) uq.apart_
  have eT : siT fl (.node b o a l r) S = .node b o a (siT fl l S) (siT fl r (siR fl l S)) := by
    show BT.node b o { a with site := siNo fl a S (siR fl l (siPre fl a S)) } (siT fl l (siPre fl a S)) (siT fl r (siMid a (siR fl l (siPre fl a S)))) = _
    rw [(siPlain (fl := fl) (S := S) (S1 := S) hp).1, (siPlain (fl := fl) (S := S) (S1 := siR fl l S) hp).2.1, (siPlain (fl := fl) (S := S) (S1 := siR fl l S) hp).2.2]
  rw [eT]
  exact ⟨⟨l3, i3, own_sh o3 (siT_sh _ _ _) (siT_sh _ _ _)⟩, (x2.mono Pt.left).trans (x3.mono Pt.right)⟩
theorem run_si {b o : Nat} {a : Nd} {l r : Tr} {S : Sl} (hp : a.tag ≠ 2 ∧ a.tag ≠ 3 ∧ a.tag ≠ 6 ∧ a.tag ≠ 10) : siR fl (.node b o a l r) S = siR fl r (siR fl l S) := by
  show siR fl r (siMid a (siR fl l (siPre fl a S))) = _
  rw [(siPlain (fl := fl) (S := S) (S1 := S) hp).1, (siPlain (fl := fl) (S := S) (S1 := siR fl l S) hp).2.1]
/-- A part that gets its number ahead of its parts. -/
theorem eT_si {b o : Nat} {a : Nd} {l r : Tr} {S : Sl} {k : Int} (h : a.tag = 2 ∧ k = 1 ∨ a.tag = 10 ∧ k = 2) : siT fl (.node b o a l r) S = .node b o { a with site := (S.length : Int) } (siT fl l (S ++ [(k, a.npos)])) (siT fl r (siR fl l (S ++ [(k, a.npos)]))) ∧ siR fl (.node b o a l r) S = siR fl r (siR fl l (S ++ [(k, a.npos)])) := by
  have e1 : siPre fl a S = S ++ [(k, a.npos)] := by
    unfold siPre
    rcases h with ⟨h, rfl⟩ | ⟨h, rfl⟩
    · rw [if_pos h]
    · rw [if_neg (by omega), if_pos h]
  have e2 : ∀ S2, siMid a S2 = S2 := fun S2 => by unfold siMid; rw [if_neg (by omega)]
  have e3 : ∀ S2, siNo fl a S S2 = (S.length : Int) := fun S2 => by unfold siNo; rw [if_pos (by omega)]
  constructor
  · show BT.node b o { a with site := siNo fl a S (siR fl l (siPre fl a S)) } (siT fl l (siPre fl a S)) (siT fl r (siMid a (siR fl l (siPre fl a S)))) = _
    rw [e1, e2, e3]
  · show siR fl r (siMid a (siR fl l (siPre fl a S))) = _
    rw [e1, e2]

set_option maxRecDepth 100000 in
set_option maxHeartbeats 8000000 in
theorem expr_si {b o : Nat} {a : Nd} {l r : Tr} (hw : Ws 0 (.node b o a l r)) (hH : Fresh H (.node b o a l r)) (hnd : (ps (.node b o a l r)).Nodup)
    (hl : a.tag = 2 ∨ a.tag = 4 ∨ a.tag = 5 → Ws 0 l ∧ GSi 197 H pb nb it vA vF m fl valT l) (h6 : a.tag = 6 → GSi 252 H pb nb it vA vF m fl ptrT (.node b o a l r))
    (hc : a.tag = 3 → GSi 251 H pb nb it vA vF m fl ptrT (.node b o a l r)) : GSi 197 H pb nb it vA vF m fl valT (.node b o a l r) := by
  intro S w h hi hS
  obtain ⟨hoka, sx, sy, hsig, hwl, hwr⟩ := hw.parts
  have ht : a.tag < 7 := by
    rcases Nat.lt_or_ge a.tag 7 with h | h
    · exact h
    · exfalso
      unfold sig at hsig
      rw [if_pos rfl] at hsig
      rw [if_neg (by omega), if_neg (by omega), if_neg (by omega), if_neg (by omega), if_neg (by omega)] at hsig
      cases hsig
  have hlv : a.tag = 0 ∨ a.tag = 1 → l = .nil := fun h => by
    have : sx = 99 := by rcases h with h | h <;> rw [h] at hsig <;> cases hsig <;> rfl
    subst this; exact hwl.nil_of
  have hr0 : a.tag ≠ 6 → r = .nil := fun h => by
    have : sy = 99 := by
      have h2 : a.tag = 0 ∨ a.tag = 1 ∨ a.tag = 2 ∨ a.tag = 3 ∨ a.tag = 4 ∨ a.tag = 5 := by omega
      rcases h2 with h2 | h2 | h2 | h2 | h2 | h2 <;> rw [h2] at hsig <;> cases hsig <;> rfl
    subst this; exact hwr.nil_of
  have hbH : H ≤ b := hH.2.2 (by unfold placed; omega)
  have hown := hi.2.2
  have uq := uq_of hnd
  have hlen := ps_len b o a l r
  have hv : valT (.node b o a l r) = .iface (ityp a.tag) (.pointer (some ⟨b, 0, none⟩)) := if_neg (by omega)
  rw [hv]
  clear hv hsig
  have t2 := fun u v => ta_element u v w
  have t3 := fun u v => ta_call u v w
  have t4 := fun u v => ta_bracket u v w
  have t5 := fun u v => ta_negate u v w
  have t6 := fun u v => ta_binary u v w
  by_cases k2 : a.tag = 2
  · obtain rfl := hr0 (by omega)
    obtain ⟨hwl0, hgl⟩ := hl (.inl k2)
    obtain ⟨u, p, hvl⟩ := hwl0.val (.inl rfl)
    rw [if_neg (by omega), if_pos ⟨by omega, by rw [k2]; rfl⟩] at hlen
    have n1 : w.cell? ⟨b, 1, none⟩ = some (.int .i64 a.npos) := by
      obtain ⟨cs, hc, hn, _⟩ := own_tag hown (n := 2) k2
      rw [cell_of_row _ _ _ _ _ _ hc]; exact hn.2.1
    obtain ⟨eT, eR⟩ := eT_si (fl := fl) (b := b) (o := o) (l := l) (r := .nil) (S := S) (k := 1) (.inl ⟨k2, rfl⟩)
    rw [eT, eR]
    have HL : Hid (GSi 197 H pb nb it vA vF m fl valT l) := hgl
    have HK : Hid (a.tag = 2) := k2
    have HU : Hid (Uq a l .nil) := uq
    have HI : Hid (IsT w (.node b o a l .nil)) := hi
    have HB : Hid (H ≤ b) := hbH
    have HB1 : Hid (S.length + 1 + (ps l).length ≤ 1000000) := by rw [Hid]; have h0 : (ps (.nil : Tr)).length = 0 := rfl; omega
    rw [show ityp a.tag = 393 by rw [k2]; rfl]
    clear hlv hr0 hl h6 hc hown k2 hgl ht uq hnd hi hH hw eT eR hlen hS hbH
    go_enter Tryz.func197, Tryz.ntmps197
    go_wp2_with fail
    refine (add_any 1 a.npos w h (by have := HB1.out; omega)).mono ?_
    rintro e W4 ⟨rfl, h4, x4⟩
    have o4 : Own W4 b a l .nil := own_fr HI.out.2.2 x4 F0.body (fun p hp ty hq => hq) (by have := HK.out; omega)
    have i4 : IsT W4 l := IsT.fr x4 (fun t p hp => absurd hp id) hwl0 HI.out.1 (fun _ _ _ h => h)
    obtain ⟨h5, x5, o5, ⟨q5, c5⟩, z5⟩ := site_set (o := 4) (i := (S.length : Int)) h4 o4 HB.out (.inl ⟨.inl HK.out, rfl⟩)
    have i5 : IsT (W4.setCell ⟨b, 4, none⟩ (.int .i64 (S.length : Int))) l := IsT.fr x5 (fun t p hp => (Po.body t p hp).pos) hwl0 i4 (Po.out HU.out.own_l)
    have n3 : (W4.setCell ⟨b, 4, none⟩ (.int .i64 (S.length : Int))).cell? ⟨b, 3, none⟩ = some (valT l) := by
      obtain ⟨cs, hc, _, h3, _⟩ := own_tag o5 (n := 2) HK.out
      rw [cell_of_row _ _ _ _ _ _ hc]; exact h3
    have X5 : Hid (Fr H (Pt (.node b o a l .nil)) w (W4.setCell ⟨b, 4, none⟩ (.int .i64 (S.length : Int)))) := (x4.mono F0.to).trans ((show Fr H (Po a) W4 _ from x5).mono Po.to)
    have HO5 : Hid (Own (W4.setCell ⟨b, 4, none⟩ (.int .i64 (S.length : Int))) b { a with site := (S.length : Int) } l .nil) := o5
    have hcall := HL.out _ _ h5 i5 (by have := HB1.out; rw [List.length_append]; simp only [List.length_cons, List.length_nil]; omega)
    rw [hvl] at n3 hcall
    clear o4 o5 x4 x5 i4 h4 n1 i5 h5
    go_upto_region 4 with fail
    generalize W4.setCell ⟨b, 4, none⟩ (.int .i64 (S.length : Int)) = W5 at *
    go_wp2_with fail
    refine hcall.mono ?_
    rintro e W6 ⟨rfl, h6, i6, x6⟩
    go_wp2
    go_end0
    have o6 := own_fr HO5.out x6 Pt.body (fun p hp ty hq => HU.out.own_l p hp hq.2) (by have := HK.out; show a.tag ≠ 20; omega)
    exact ⟨rfl, h6, ⟨i6, trivial, own_sh o6 (siT_sh _ _ _) (Sh.refl _)⟩, X5.out.trans (x6.mono Pt.left)⟩
  by_cases k3 : a.tag = 3
  · have hcall := hc k3 S w h hi hS
    have hcall' : Calls Tryz.prog 251 #[.pointer (some ⟨nb, 0, none⟩), .pointer (some ⟨b, 0, none⟩)] w _ := hcall
    rw [show ityp a.tag = 396 by rw [k3]; rfl]
    clear hlv hr0 hl h6 hc hown k2 k3 hcall ht uq hnd hi hwl hwr hH hw hlen hS hbH
    go_enter Tryz.func197, Tryz.ntmps197
    go_wp2_with fail
    refine hcall'.mono ?_
    rintro e W2 ⟨rfl, h2, i2, x2⟩
    go_wp2
    go_end0
    exact ⟨rfl, h2, i2, x2⟩
  by_cases k6 : a.tag = 6
  · have hcall := h6 k6 S w h hi hS
    have hcall' : Calls Tryz.prog 252 #[.pointer (some ⟨nb, 0, none⟩), .pointer (some ⟨b, 0, none⟩)] w _ := hcall
    rw [show ityp a.tag = 403 by rw [k6]; rfl]
    clear hlv hr0 hl h6 hc hown k2 k3 k6 hcall ht uq hnd hi hwl hwr hH hw hlen hS hbH
    go_enter Tryz.func197, Tryz.ntmps197
    go_wp2_with fail
    refine hcall'.mono ?_
    rintro e W2 ⟨rfl, h2, i2, x2⟩
    go_wp2
    go_end0
    exact ⟨rfl, h2, i2, x2⟩
  have hp : a.tag ≠ 2 ∧ a.tag ≠ 3 ∧ a.tag ≠ 6 ∧ a.tag ≠ 10 := by omega
  obtain rfl := hr0 k6
  rw [run_si hp]
  by_cases k45 : a.tag = 4 ∨ a.tag = 5
  · obtain ⟨hwl0, hgl⟩ := hl (.inr k45)
    obtain ⟨u, p, hvl⟩ := hwl0.val (.inl rfl)
    have m3 : w.cell? ⟨b, 0, none⟩ = some (valT l) := by
      rcases k45 with k4 | k4
      · obtain ⟨cs, hc, h3⟩ := own_tag hown (n := 4) k4
        rw [cell_of_row _ _ _ _ _ _ hc]; exact h3
      · obtain ⟨cs, hc, h3⟩ := own_tag hown (n := 5) k4
        rw [cell_of_row _ _ _ _ _ _ hc]; exact h3
    have hcall := hgl S w h hi.1 (by omega)
    rw [hvl] at m3 hcall
    have FIN : Hid _ := fun W2 x2 i2 => two_si (H := H) (fl := fl) (S := S) (o := o) (W2 := W2) (W3 := W2) hwl0 uq (by omega : a.tag ≠ 20) hp hown x2 i2 (Fr.refl _ _ _) trivial
    rcases k45 with k4 | k4
    · rw [show ityp a.tag = 398 by rw [k4]; rfl]
      clear hlv hr0 hl h6 hc hown k2 k3 k6 k4 hgl ht uq hnd hi hH hw hlen hS hbH hp
      go_enter Tryz.func197, Tryz.ntmps197
      go_wp2_with fail
      refine hcall.mono ?_
      rintro e W3 ⟨rfl, h3, i3, x3⟩
      go_wp2
      go_end0
      exact ⟨rfl, h3, FIN.out W3 x3 i3⟩
    · rw [show ityp a.tag = 401 by rw [k4]; rfl]
      clear hlv hr0 hl h6 hc hown k2 k3 k6 k4 hgl ht uq hnd hi hH hw hlen hS hbH hp
      go_enter Tryz.func197, Tryz.ntmps197
      go_wp2_with fail
      refine hcall.mono ?_
      rintro e W3 ⟨rfl, h3, i3, x3⟩
      go_wp2
      go_end0
      exact ⟨rfl, h3, FIN.out W3 x3 i3⟩
  · have k01 : a.tag = 0 ∨ a.tag = 1 := by omega
    obtain rfl := hlv k01
    have hfin := two_si (H := H) (fl := fl) (o := o) (S := S) (W2 := w) (W3 := w) hwl uq (by omega : a.tag ≠ 20) hp hown (Fr.refl _ _ _) trivial (Fr.refl _ _ _) trivial
    rcases k01 with k0 | k0
    · rw [show ityp a.tag = 362 by rw [k0]; rfl]
      clear hlv hr0 hl h6 hc hown k2 k3 k6 k0 k45 ht uq hnd hH hw hlen hS hbH hp
      go_enter Tryz.func197, Tryz.ntmps197
      go_wp2
      go_end0
      exact ⟨rfl, h, hfin⟩
    · rw [show ityp a.tag = 359 by rw [k0]; rfl]
      clear hlv hr0 hl h6 hc hown k2 k3 k6 k0 k45 ht uq hnd hH hw hlen hS hbH hp
      go_enter Tryz.func197, Tryz.ntmps197
      go_wp2
      go_end0
      exact ⟨rfl, h, hfin⟩

set_option maxRecDepth 100000 in
set_option maxHeartbeats 4000000 in
theorem cond_si {b o : Nat} {a : Nd} {l r : Tr} (hw : Ws 1 (.node b o a l r)) (hnd : (ps (.node b o a l r)).Nodup)
    (h7 : a.tag = 7 → Ws 0 l ∧ Ws 0 r ∧ GSi 197 H pb nb it vA vF m fl valT l ∧ GSi 197 H pb nb it vA vF m fl valT r)
    (h8 : a.tag = 8 → Ws 1 l ∧ Ws 1 r ∧ GSi 199 H pb nb it vA vF m fl valT l ∧ GSi 199 H pb nb it vA vF m fl valT r) : GSi 199 H pb nb it vA vF m fl valT (.node b o a l r) := by
  intro S w h hi hS
  obtain ⟨hoka, sx, sy, hsig, hwl, hwr⟩ := hw.parts
  have ht : a.tag = 7 ∨ a.tag = 8 := by
    by_cases h1 : a.tag = 7
    · exact .inl h1
    by_cases h2 : a.tag = 8
    · exact .inr h2
    · exfalso; simp [sig, h1, h2] at hsig
  have uq := uq_of hnd
  have hne : a.tag ≠ 20 := by omega
  have hown := hi.2.2
  have hp : a.tag ≠ 2 ∧ a.tag ≠ 3 ∧ a.tag ≠ 6 ∧ a.tag ≠ 10 := by omega
  have hlen := ps_len b o a l r
  have hlR := siR_len fl l S
  have hb1 : S.length + (ps l).length ≤ 1000000 := by omega
  have hb2 : (siR fl l S).length + (ps r).length ≤ 1000000 := by omega
  have hv : valT (.node b o a l r) = .iface (ityp a.tag) (.pointer (some ⟨b, 0, none⟩)) := if_neg hne
  rw [hv, run_si hp]
  clear hv hsig hoka
  have t1 := fun u v => ta_compare u v w
  have t2 := fun u v => ta_logic u v w
  have FIN : Hid _ := fun W2 W3 x2 i2 x3 i3 => two_si (H := H) (fl := fl) (o := o) (S := S) (W2 := W2) (W3 := W3) hwl uq hne hp hown x2 i2 x3 i3
  have RK : Hid _ := fun W2 x2 => right_kept (H := H) (W2 := W2) hwr uq hi x2 hne
  rcases ht with k7 | k8
  · obtain ⟨hw0, hw1, hgl, hgr⟩ := h7 k7
    obtain ⟨u, p, hvl⟩ := hw0.val (.inl rfl)
    obtain ⟨u2, p2, hvr⟩ := hw1.val (.inl rfl)
    have HR : Hid (GSi 197 H pb nb it vA vF m fl valT r) := hgr
    have own2 : ∀ w', Own w' b a l r → w'.cell? ⟨b, 2, none⟩ = some (valT l) ∧ w'.cell? ⟨b, 3, none⟩ = some (valT r) := by
      intro w' ho
      obtain ⟨cs, hc, _, _, h2, h3⟩ := own_tag ho (n := 7) k7
      exact ⟨by rw [cell_of_row _ _ _ _ _ _ hc]; exact h2, by rw [cell_of_row _ _ _ _ _ _ hc]; exact h3⟩
    have m2 := (own2 w hown).1
    have HO2 : Hid _ := own2
    have hcall := hgl S w h hi.1 hb1
    rw [hvl] at m2 hcall
    rw [show ityp a.tag = 253 by rw [k7]; rfl]
    clear h7 h8 hgl hgr hown uq hnd hi hw hne hp hwl hwr hw0 hw1 own2 k7 h hlen hlR hS
    go_enter Tryz.func199, Tryz.ntmps199
    go_wp2_with fail
    refine hcall.mono ?_
    rintro e W2 ⟨rfl, h2, i2, x2⟩
    obtain ⟨j2, o2⟩ := RK.out W2 x2
    have m3 := (HO2.out W2 o2).2
    have hcall2 := HR.out _ _ h2 j2 hb2
    rw [hvr] at m3 hcall2
    go_wp2_with fail
    refine hcall2.mono ?_
    rintro e W3 ⟨rfl, h3, i3, x3⟩
    go_wp2
    go_end0
    exact ⟨rfl, h3, FIN.out W2 W3 x2 i2 x3 i3⟩
  · obtain ⟨hw0, hw1, hgl, hgr⟩ := h8 k8
    obtain ⟨u, p, hvl⟩ := hw0.val (.inr (.inl rfl))
    obtain ⟨u2, p2, hvr⟩ := hw1.val (.inr (.inl rfl))
    have HR : Hid (GSi 199 H pb nb it vA vF m fl valT r) := hgr
    have own2 : ∀ w', Own w' b a l r → w'.cell? ⟨b, 1, none⟩ = some (valT l) ∧ w'.cell? ⟨b, 2, none⟩ = some (valT r) := by
      intro w' ho
      obtain ⟨cs, hc, _, h2, h3⟩ := own_tag ho (n := 8) k8
      exact ⟨by rw [cell_of_row _ _ _ _ _ _ hc]; exact h2, by rw [cell_of_row _ _ _ _ _ _ hc]; exact h3⟩
    have m2 := (own2 w hown).1
    have HO2 : Hid _ := own2
    have hcall := hgl S w h hi.1 hb1
    rw [hvl] at m2 hcall
    rw [show ityp a.tag = 407 by rw [k8]; rfl]
    clear h7 h8 hgl hgr hown uq hnd hi hw hne hp hwl hwr hw0 hw1 own2 k8 h hlen hlR hS
    go_enter Tryz.func199, Tryz.ntmps199
    go_wp2_with fail
    refine hcall.mono ?_
    rintro e W2 ⟨rfl, h2, i2, x2⟩
    obtain ⟨j2, o2⟩ := RK.out W2 x2
    have m3 := (HO2.out W2 o2).2
    have hcall2 := HR.out _ _ h2 j2 hb2
    rw [hvr] at m3 hcall2
    go_wp2_with fail
    refine hcall2.mono ?_
    rintro e W3 ⟨rfl, h3, i3, x3⟩
    go_wp2
    go_end0
    exact ⟨rfl, h3, FIN.out W2 W3 x2 i2 x3 i3⟩
end Go.Proofs.YtikffmloeifkpaaGreatDoor
