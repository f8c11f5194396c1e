/- The program's contracts, part 20: each says what a function of the program does, for every argument that its premises name. -/
import Derived.Test.YtikffmloeifkpaaGreatDoorM19
/- Package names: a whole program without a fault. -/
namespace Go.Proofs.YtikffmloeifkpaaGreatDoor
open Go.RowKit Go.Lib Go.Deep Go.ChangeMaps Go.MapKept
variable {F : Ents} {its : List Tr} {H pb : Nat}

theorem its_ok {t : Tr} (hw : Ws 8 t) : ItsOk (firstOf t) (itsOf t) (parOf t) (naOf t) := by
  have hL := hw.elems (.inr (.inr (.inr (.inr rfl))))
  obtain ⟨g1, g2⟩ := kind_gaT (elems t) 0 0 hL
  have mem : ∀ x e, meantP (firstOf t) (itsOf t) x = some e → e ∈ toL (gaT (elems t) 0 0) := by
    intro x e h
    obtain ⟨i, _, hi⟩ := Option.bind_eq_some_iff.1 h
    exact List.mem_of_getElem? hi
  constructor
  · intro x e h
    unfold arrayOf at h
    cases hm : meantP (firstOf t) (itsOf t) x with
    | none => rw [hm] at h; cases h
    | some e0 =>
      rw [hm] at h
      cases e0 with
      | nil => cases h
      | node b o a l r =>
        dsimp only at h
        by_cases ht : a.tag = 16
        · rw [if_pos ht] at h
          cases h
          obtain ⟨j, h1, h2⟩ := which_arr (elems t) 0 0 _ hL (mem _ _ hm) ht
          have hj : j < (arrsL (toL (gaT (elems t) 0 0))).length := by
            rcases Nat.lt_or_ge j (arrsL (toL (gaT (elems t) 0 0))).length with h | h
            · exact h
            · rw [List.getElem?_eq_none h] at h1; cases h1
          have e1 : arrsL (toL (gaT (elems t) 0 0)) = kindOf 16 (gaT (elems t) 0 0) := (kindOf_toL 16 _).symm
          rw [e1, g2] at hj
          rw [h2]
          have : naOf t = (kindOf 16 (elems t)).length := rfl
          omega
        · rw [if_neg ht] at h; cases h
  · intro x b o a l r h
    unfold funcOf at h
    cases hm : meantP (firstOf t) (itsOf t) x with
    | none => rw [hm] at h; cases h
    | some e0 =>
      rw [hm] at h
      cases e0 with
      | nil => cases h
      | node b' o' a' l' r' =>
        dsimp only at h
        by_cases ht : a'.tag = 17
        · rw [if_pos ht] at h
          cases h
          obtain ⟨j, h1, h2⟩ := which_fn (elems t) 0 0 _ hL (mem _ _ hm) ht
          have e1 : fnsL (toL (gaT (elems t) 0 0)) = kindOf 17 (gaT (elems t) 0 0) := (kindOf_toL 17 _).symm
          have h2 : a.which = ((0 + j : Nat) : Int) := h2
          rw [h2]
          refine ⟨by omega, ?_⟩
          rw [show (((0 + j : Nat) : Int)).toNat = j by omega]
          unfold parOf
          rw [← g1, ← e1, List.getElem?_map, h1]
          rfl
        · rw [if_neg ht] at h; cases h
theorem elems_resT {t : Tr} (hw : Ws 8 t) : elems (resT t) = itsT (firstOf t) (itsOf t) (gaT (elems t) 0 0) 0 rs0 := by
  rcases hw.lst (.inr (.inr (.inr (.inr rfl)))) with rfl | ⟨b, o, a, l, rfl, ht, _⟩
  · rfl
  · rfl
theorem ptrT_setW (e : Tr) (n : Int) : ptrT (setW e n) = ptrT e := by cases e <;> rfl
theorem ptr_gaT (k : Nat) : ∀ (L : Tr) (nA nF : Nat), (kindOf k (gaT L nA nF)).map ptrT = (kindOf k L).map ptrT := by
  intro L
  induction L with
  | nil => intro _ _; rfl
  | node b o a e r _ ih =>
    intro nA nF
    have key : ∀ (n : Int) (X : List Tr), X.map ptrT = (kindOf k r).map ptrT → (if tagOf (setW e n) = k then setW e n :: X else X : List Tr).map ptrT = (if tagOf e = k then e :: kindOf k r else kindOf k r : List Tr).map ptrT := by
      intro n X hX
      rw [tag_setW]
      split
      · rw [List.map_cons, List.map_cons, ptrT_setW, hX]
      · exact hX
    unfold gaT
    split
    · exact key _ _ (ih _ _)
    · exact key _ _ (ih _ _)
theorem itT_more {e : Tr} (i : Nat) (s : Rs) (h : Ws 7 e) : tagOf (itT F its e i s) = tagOf e ∧ ptrT (itT F its e i s) = ptrT e ∧ nPar (itT F its e i s) = nPar e ∧ (tagOf e = 16 → itT F its e i s = e) := by
  obtain ⟨b, o, a, l, r, rfl, ht⟩ := item_of h
  rcases ht with ht | ht
  · have e1 : itT F its (.node b o a l r) i s = .node b o a l r := if_pos ht
    rw [e1]
    exact ⟨rfl, rfl, rfl, fun _ => rfl⟩
  · obtain ⟨hl, x, y, z, p, q, rfl, hz, hp, hq⟩ := func_of h ht
    have e2 : itT F its (.node b o a l (.node x y z p q)) i s = fnT F its (.node b o a l (.node x y z p q)) (s.twice F a i) := if_neg (by omega)
    rw [e2]
    exact ⟨rfl, rfl, lenV_withL (.inr (.inr (.inr (.inl rfl)))) hl (parT_shape (elems l) _).1, fun e => by have : a.tag = 16 := e; omega⟩
theorem kind_itsT : ∀ (L : Tr) (i : Nat) (s : Rs), Ws 18 L → (kindOf 17 (itsT F its L i s)).map nPar = (kindOf 17 L).map nPar ∧ kindOf 16 (itsT F its L i s) = kindOf 16 L ∧ (kindOf 17 (itsT F its L i s)).map ptrT = (kindOf 17 L).map ptrT := by
  intro L
  induction L with
  | nil => intro _ _ _; exact ⟨rfl, rfl, rfl⟩
  | node b o a e r _ ih =>
    intro i s hw
    obtain ⟨_, hwe, hwr⟩ := ws_rest (.inr (.inr (.inr (.inr rfl)))) hw
    obtain ⟨h1, h2, h3, h4⟩ := itT_more (F := F) (its := its) i s hwe
    obtain ⟨i1, i2, i3⟩ := ih (i + 1) (itR F its e i s) hwr
    have key : ∀ k, kindOf k (itsT F its (.node b o a e r) i s) = if tagOf e = k then itT F its e i s :: kindOf k (itsT F its r (i + 1) (itR F its e i s)) else kindOf k (itsT F its r (i + 1) (itR F its e i s)) := by
      intro k
      show (if tagOf (itT F its e i s) = k then _ else _) = _
      rw [h1]
    have key2 : ∀ k, kindOf k (.node b o a e r) = if tagOf e = k then e :: kindOf k r else kindOf k r := fun k => rfl
    rw [key, key, key2, key2]
    refine ⟨?_, ?_, ?_⟩
    · split
      · rw [List.map_cons, List.map_cons, h3, i1]
      · exact i1
    · split
      · rename_i h; rw [h4 h, i2]
      · exact i2
    · split
      · rw [List.map_cons, List.map_cons, h2, i3]
      · exact i3
/-- A program without a fault. -/
structure ProgOk (t T : Tr) (m : Int) : Prop where
  fns : ∀ e ∈ kindOf 17 (elems T), FnOk (parOf t) (naOf t) e
  par : (kindOf 17 (elems T)).map nPar = (kindOf 17 (elems t)).map nPar
  arrs : ∀ e ∈ kindOf 16 (elems T), ArOk e
  na : (kindOf 16 (elems T)).length = naOf t
  few : naOf t ≤ 6
  main : ∃ j : Nat, m = j ∧ j < (kindOf 17 (elems T)).length
theorem prog_ok {t : Tr} {n : Int} (hw : Ws 8 t) (hc : (resS t n).code = 0) : ProgOk t (resT t) (resM t) := by
  have hL := hw.elems (.inr (.inr (.inr (.inr rfl))))
  have hI := its_ok hw
  have hsome : (funcOf (firstOf t) (itsOf t) mainB).isSome := by
    unfold resS at hc
    by_cases h : (funcOf (firstOf t) (itsOf t) mainB).isSome
    · exact h
    · rw [if_neg h] at hc; exact absurd hc (rfail_code (by decide))
  have hc1 : (itsR (firstOf t) (itsOf t) (gaT (elems t) 0 0) 0 rs0).code = 0 := by
    unfold resS at hc
    rw [if_pos hsome] at hc
    exact hc
  have hg : Ws 18 (gaT (elems t) 0 0) := gaT_kind hL
  obtain ⟨_, k1, k2⟩ := itsR_ok hI _ _ _ hg hc1
  obtain ⟨g1, g2⟩ := kind_gaT (elems t) 0 0 hL
  obtain ⟨j1, j2, _⟩ := kind_itsT (F := firstOf t) (its := itsOf t) (gaT (elems t) 0 0) 0 rs0 hg
  refine ⟨by rw [elems_resT hw]; exact k1, by rw [elems_resT hw, j1, g1], by rw [elems_resT hw]; exact k2, by rw [elems_resT hw, j2, g2]; rfl, ?_, ?_⟩
  · rw [← j2] at g2
    have e0 : naOf t = (kindOf 16 (itsT (firstOf t) (itsOf t) (gaT (elems t) 0 0) 0 rs0)).length := g2.symm
    rcases Nat.eq_zero_or_pos (naOf t) with h0 | h0
    · omega
    · have hlt : naOf t - 1 < (kindOf 16 (itsT (firstOf t) (itsOf t) (gaT (elems t) 0 0) 0 rs0)).length := by omega
      obtain ⟨b, o, a, l, r, e1, _, h6, _⟩ := k2 _ (List.getElem_mem hlt)
      have hget : (kindOf 16 (gaT (elems t) 0 0))[naOf t - 1]? = some (kindOf 16 (itsT (firstOf t) (itsOf t) (gaT (elems t) 0 0) 0 rs0))[naOf t - 1] := by
        rw [← j2]; exact List.getElem?_eq_getElem hlt
      have hwh := arr_at (elems t) 0 0 _ _ hL hget
      rw [e1] at hwh
      have hwh : a.which = ((0 + (naOf t - 1) : Nat) : Int) := hwh
      omega
  · obtain ⟨e, he⟩ := Option.isSome_iff_exists.1 hsome
    have hM : resM t = whichT e := by unfold resM; rw [he]; rfl
    cases e with
    | nil =>
      exfalso
      unfold funcOf at he
      cases hm : meantP (firstOf t) (itsOf t) mainB with
      | none => rw [hm] at he; cases he
      | some e0 =>
        rw [hm] at he
        cases e0 with
        | nil => cases he
        | node b o a l r =>
          dsimp only at he
          split at he <;> cases he
    | node b o a l r =>
      obtain ⟨h1, h2⟩ := hI.fn _ _ _ _ _ _ he
      refine ⟨a.which.toNat, by rw [hM]; show a.which = _; omega, ?_⟩
      have : a.which.toNat < ((kindOf 17 (elems t)).map nPar).length := by
        rcases Nat.lt_or_ge a.which.toNat ((kindOf 17 (elems t)).map nPar).length with h | h
        · exact h
        · unfold parOf at h2; rw [List.getElem?_eq_none h] at h2; cases h2
      rw [elems_resT hw]
      have e3 := congrArg List.length (j1.trans g1)
      rw [List.length_map] at e3
      omega

/-! Calls name functions that there are. -/
theorem cv_still {n : Nat} : ∀ (t : Tr) (s : Nat), Ws s t → still s = true → Cv n t := by
  intro t
  induction t with
  | nil => intro _ _ _; trivial
  | node b o a l r ihl ihr =>
    intro s hw hs
    obtain ⟨_, x, y, hsig, hl, hr⟩ := hw.parts
    obtain ⟨hp, kx, ky⟩ := still_kids hsig hs
    exact ⟨ihl x hl kx, ihr y hr ky, fun e => absurd e hp.2.1⟩
theorem cv_vd {par : Nat → Option Nat} {na nv n : Nat} (hn : ∀ k v, par k = some v → k < n) : ∀ {t : Tr}, Vd par na nv t → Cv n t := by
  intro t
  induction t with
  | nil => intro _; trivial
  | node b o a l r ihl ihr =>
    intro ⟨h1, h2, _, _, h5⟩
    exact ⟨ihl h1, ihr h2, fun e => by have := h5 e; have := hn _ _ this.2; omega⟩
theorem par_lt {t : Tr} {k v : Nat} (h : parOf t k = some v) : k < (kindOf 17 (elems t)).length := by
  rcases Nat.lt_or_ge k (kindOf 17 (elems t)).length with h2 | h2
  · exact h2
  · unfold parOf at h
    rw [List.getElem?_eq_none (by rw [List.length_map]; exact h2)] at h; cases h
theorem ProgOk.len {t T : Tr} {m : Int} (h : ProgOk t T m) : (kindOf 17 (elems T)).length = (kindOf 17 (elems t)).length := by
  have := congrArg List.length h.par
  simpa using this
theorem ProgOk.cv {t T : Tr} {m : Int} (h : ProgOk t T m) (hw : Ws 8 T) : Cv (kindOf 17 (elems T)).length T := by
  have hL := hw.elems (.inr (.inr (.inr (.inr rfl))))
  have key : ∀ L : Tr, Ws 18 L → (∀ e ∈ kindOf 17 L, FnOk (parOf t) (naOf t) e) → Cv (kindOf 17 (elems T)).length L := by
    intro L
    induction L with
    | nil => intro _ _; trivial
    | node b o a e r _ ih =>
      intro hw hf
      obtain ⟨h15, hwe, hwr⟩ := ws_rest (.inr (.inr (.inr (.inr rfl)))) hw
      have hf : ∀ e' ∈ (if tagOf e = 17 then e :: kindOf 17 r else kindOf 17 r), FnOk (parOf t) (naOf t) e' := hf
      obtain ⟨b2, o2, a2, l, r2, rfl, ht⟩ := item_of hwe
      by_cases h17 : a2.tag = 17
      · rw [if_pos (show tagOf (.node b2 o2 a2 l r2) = 17 from h17)] at hf
        refine ⟨?_, ih hwr (fun e' he => hf e' (List.mem_cons_of_mem _ he)), fun e => by omega⟩
        obtain ⟨_, _, _, l', x, y, z, p, q, e, h1, h2, h3, h4, _⟩ := hf _ (List.mem_cons_self ..)
        simp only [BT.node.injEq] at e
        obtain ⟨rfl, rfl, rfl, rfl, rfl⟩ := e
        obtain ⟨hl, _, _, _, _, _, e, _⟩ := func_of hwe h17
        have hn : ∀ k v, parOf t k = some v → k < (kindOf 17 (elems T)).length := fun k v hk => by rw [h.len]; exact par_lt hk
        exact ⟨cv_still l 6 hl rfl, ⟨cv_vd hn h3, cv_vd hn h4, fun e => by omega⟩, fun e => by omega⟩
      · rw [if_neg (show ¬ tagOf (.node b2 o2 a2 l r2) = 17 from h17)] at hf
        refine ⟨?_, ih hwr hf, fun e => by omega⟩
        obtain ⟨_, x, y, hsig, hl, hr⟩ := hwe.parts
        have h16 : a2.tag = 16 := ht.resolve_right h17
        rw [h16] at hsig
        cases hsig
        obtain rfl := hl.nil_of
        obtain rfl := hr.nil_of
        exact ⟨trivial, trivial, fun e => by omega⟩
  have := key _ hL h.fns
  rcases hw.lst (.inr (.inr (.inr (.inr rfl)))) with rfl | ⟨b, o, a, l, rfl, ht, _⟩
  · trivial
  · exact ⟨this, trivial, fun e => by omega⟩
end Go.Proofs.YtikffmloeifkpaaGreatDoor

/- Package names: where a tree lies does not matter. -/
namespace Go.Proofs.YtikffmloeifkpaaGreatDoor
open Go.RowKit Go.Lib Go.Deep Go.ChangeMaps Go.MapKept
variable {F : Ents} {its : List Tr}

theorem elems_er (t : Tr) : elems (er t) = er (elems t) := by cases t <;> rfl
theorem setW_er (e : Tr) (n : Int) : setW (er e) n = er (setW e n) := by cases e <;> rfl
theorem tag_er (e : Tr) : tagOf (er e) = tagOf e := by cases e <;> rfl
theorem name_er (e : Tr) : nameOfT (er e) = nameOfT e := by cases e <;> rfl
theorem npos_er (e : Tr) : nposOfT (er e) = nposOfT e := by cases e <;> rfl
theorem pos_er (e : Tr) : posOfT (er e) = posOfT e := by cases e <;> rfl
theorem which_er (e : Tr) : whichT (er e) = whichT e := by cases e <;> rfl
theorem withL_er (t l : Tr) : withL (er t) (er l) = er (withL t l) := by cases t <;> rfl
theorem sides_er (t l r : Tr) : withSides (er t) (er l) (er r) = er (withSides t l r) := by cases t <;> rfl
theorem sideL_er (t : Tr) : sideL (er t) = er (sideL t) := by cases t <;> rfl
theorem sideR_er (t : Tr) : sideR (er t) = er (sideR t) := by cases t <;> rfl
theorem gaT_er : ∀ (L : Tr) (nA nF : Nat), gaT (er L) nA nF = er (gaT L nA nF) := by
  intro L
  induction L with
  | nil => intro _ _; rfl
  | node b o a e r _ ih =>
    intro nA nF
    show (if tagOf (er e) = 16 then _ else _) = er (if tagOf e = 16 then _ else _)
    rw [tag_er, setW_er, setW_er, ih, ih]
    split <;> rfl
theorem gaF_er : ∀ (L : Tr) (i : Nat) (F : Ents), gaF (er L) i F = gaF L i F := by
  intro L
  induction L with
  | nil => intro _ _; rfl
  | node b o a e r _ ih =>
    intro i F
    show gaF (er r) (i + 1) (if (look (nameOfT (er e)) F).isSome then F else put (nameOfT (er e)) i F) = _
    rw [name_er, ih]; rfl
theorem toL_er (L : Tr) : toL (er L) = (toL L).map er := by
  induction L with
  | nil => rfl
  | node b o a e r _ ih => show er e :: toL (er r) = _; rw [ih]; rfl
theorem kind_er (k : Nat) (L : Tr) : kindOf k (er L) = (kindOf k L).map er := by
  induction L with
  | nil => rfl
  | node b o a e r _ ih =>
    show (if tagOf (er e) = k then er e :: kindOf k (er r) else kindOf k (er r)) = (if tagOf e = k then e :: kindOf k r else kindOf k r : List Tr).map er
    rw [tag_er, ih]
    split <;> rfl
theorem meant_er (x : ByteArray) : meantP F (its.map er) x = (meantP F its x).map er := by
  unfold meantP
  cases look x F with
  | none => rfl
  | some i => simp [List.getElem?_map]
theorem arrayOf_er (x : ByteArray) : arrayOf F (its.map er) x = (arrayOf F its x).map er := by
  unfold arrayOf
  rw [meant_er]
  cases meantP F its x with
  | none => rfl
  | some e =>
    cases e with
    | nil => rfl
    | node b o a l r =>
      show (if a.tag = 16 then _ else _) = Option.map er (if a.tag = 16 then _ else _)
      split <;> rfl
theorem funcOf_er (x : ByteArray) : funcOf F (its.map er) x = (funcOf F its x).map er := by
  unfold funcOf
  rw [meant_er]
  cases meantP F its x with
  | none => rfl
  | some e =>
    cases e with
    | nil => rfl
    | node b o a l r =>
      show (if a.tag = 17 then _ else _) = Option.map er (if a.tag = 17 then _ else _)
      split <;> rfl
theorem callName_er (s : Rs) (x : ByteArray) (p : Int) (n : Nat) : s.callName F (its.map er) x p n = s.callName F its x p n := by
  unfold Rs.callName
  rw [funcOf_er]
  cases funcOf F its x with
  | none => rfl
  | some e =>
    cases e with
    | nil => rfl
    | node b o a l r =>
      show (if n = lenV (er l) then _ else _) = (if n = lenV l then _ else _)
      rw [lenV_er]
theorem whichC_er (x : ByteArray) (n : Nat) (q : Int) : whichC F (its.map er) x n q = whichC F its x n q := by
  unfold whichC
  rw [funcOf_er]
  cases funcOf F its x with
  | none => rfl
  | some e =>
    cases e with
    | nil => rfl
    | node b o a l r =>
      show (if n = lenV (er l) then _ else _) = (if n = lenV l then _ else _)
      rw [lenV_er]
theorem arrayName_er (s : Rs) (x : ByteArray) (p : Int) : s.arrayName F (its.map er) x p = s.arrayName F its x p := by
  unfold Rs.arrayName
  rw [arrayOf_er]
  cases arrayOf F its x <;> rfl
theorem whichA_er (x : ByteArray) (q : Int) : whichA F (its.map er) x q = whichA F its x q := by
  unfold whichA
  rw [arrayOf_er]
  cases arrayOf F its x with
  | none => rfl
  | some e => exact which_er e
theorem rs1_er (a : Nd) (n : Nat) (s : Rs) : rs1 F (its.map er) a n s = rs1 F its a n s := by unfold rs1; rw [arrayName_er, callName_er]
theorem wh1_er (a : Nd) (n : Nat) (s : Rs) : wh1 F (its.map er) a n s = wh1 F its a n s := by unfold wh1; rw [whichA_er, whichC_er]
theorem rsT_its : ∀ (t : Tr) (s : Rs), rsT F (its.map er) t s = rsT F its t s := by
  intro t
  induction t with
  | nil => intro s; rfl
  | node b o a l r ihl ihr => intro s; simp only [rsT, ihl, ihr, rs1_er]
theorem reT_its : ∀ (t : Tr) (s : Rs), reT F (its.map er) t s = reT F its t s := by
  intro t
  induction t with
  | nil => intro s; rfl
  | node b o a l r ihl ihr => intro s; simp only [reT, rsT_its, ihl, ihr, rs1_er, wh1_er]
theorem parR_er : ∀ (L : Tr) (s : Rs), parR (er L) s = parR L s := by
  intro L
  induction L with
  | nil => intro _; rfl
  | node b o a e r _ ih => intro s; show parR (er r) (s.param (nameOfT (er e)) (nposOfT (er e))) = _; rw [name_er, npos_er, ih]; rfl
theorem parT_er : ∀ (L : Tr) (s : Rs), parT (er L) s = er (parT L s) := by
  intro L
  induction L with
  | nil => intro _; rfl
  | node b o a e r _ ih => intro s; show BT.node 0 0 a (setW (er e) _) (parT (er r) (s.param (nameOfT (er e)) (nposOfT (er e)))) = _; rw [name_er, npos_er, ih, setW_er]; rfl
theorem whR_er : ∀ (L : Tr) (i : Nat) (s : Rs), whR F (its.map er) (er L) i s = whR F its L i s := by
  intro L
  induction L with
  | nil => intro _ _; rfl
  | node b o a e r _ ih =>
    intro i s
    show whR F (its.map er) (er r) (i + 1) (rsT F (its.map er) (sideR (er e)) ((rsT F (its.map er) (sideL (er e)) s).fifth i (posOfT (er e)))) = _
    rw [ih, sideL_er, sideR_er, rsT_its, rsT_its, rsT_er, rsT_er, pos_er]; rfl
theorem whT_er : ∀ (L : Tr) (i : Nat) (s : Rs), whT F (its.map er) (er L) i s = er (whT F its L i s) := by
  intro L
  induction L with
  | nil => intro _ _; rfl
  | node b o a e r _ ih =>
    intro i s
    show BT.node 0 0 a (withSides (er e) (reT F (its.map er) (sideL (er e)) s) (reT F (its.map er) (sideR (er e)) ((rsT F (its.map er) (sideL (er e)) s).fifth i (posOfT (er e))))) (whT F (its.map er) (er r) (i + 1) (rsT F (its.map er) (sideR (er e)) ((rsT F (its.map er) (sideL (er e)) s).fifth i (posOfT (er e))))) = _
    rw [ih, sideL_er, sideR_er, rsT_its, rsT_its, rsT_er, rsT_er, reT_its, reT_its, reT_er, reT_er, pos_er, sides_er]; rfl
theorem fnS_er (a : Nd) (l p : Tr) (s : Rs) : fnS F (its.map er) a (er l) (er p) s = fnS F its a l p s := by
  unfold fnS
  rw [elems_er, elems_er, parR_er, whR_er]
theorem itR_er (e : Tr) (i : Nat) (s : Rs) : itR F (its.map er) (er e) i s = itR F its e i s := by
  cases e with
  | nil => rfl
  | node b o a l r =>
    show (if a.tag = 16 then (s.twice F a i).arr a else fnR F (its.map er) (.node 0 0 a (er l) (er r)) (s.twice F a i)) = (if a.tag = 16 then (s.twice F a i).arr a else fnR F its (.node b o a l r) (s.twice F a i))
    congr 1
    cases r with
    | nil => rfl
    | node x y z p q =>
      show rsT F (its.map er) (er q) (fnS F (its.map er) a (er l) (er p) _).2 = rsT F its q (fnS F its a l p _).2
      rw [fnS_er, rsT_its, rsT_er]
theorem itT_er (e : Tr) (i : Nat) (s : Rs) : itT F (its.map er) (er e) i s = er (itT F its e i s) := by
  cases e with
  | nil => rfl
  | node b o a l r =>
    show (if a.tag = 16 then BT.node 0 0 a (er l) (er r) else fnT F (its.map er) (.node 0 0 a (er l) (er r)) (s.twice F a i)) = er (if a.tag = 16 then .node b o a l r else fnT F its (.node b o a l r) (s.twice F a i))
    split
    · rfl
    · cases r with
      | nil => rfl
      | node x y z p q =>
        show BT.node 0 0 { a with val := _ } (withL (er l) (parT (elems (er l)) _)) (.node 0 0 z (withL (er p) (whT F (its.map er) (elems (er p)) 0 (fnS F (its.map er) a (er l) (er p) _).1)) (reT F (its.map er) (er q) (fnS F (its.map er) a (er l) (er p) _).2)) = _
        rw [fnS_er, rsT_its, rsT_er, reT_its, reT_er, elems_er, elems_er, parT_er, whT_er, withL_er, withL_er]
        rfl
theorem itsR_er : ∀ (L : Tr) (i : Nat) (s : Rs), itsR F (its.map er) (er L) i s = itsR F its L i s := by
  intro L
  induction L with
  | nil => intro _ _; rfl
  | node b o a e r _ ih => intro i s; show itsR F (its.map er) (er r) (i + 1) (itR F (its.map er) (er e) i s) = _; rw [itR_er, ih]; rfl
theorem itsT_er : ∀ (L : Tr) (i : Nat) (s : Rs), itsT F (its.map er) (er L) i s = er (itsT F its L i s) := by
  intro L
  induction L with
  | nil => intro _ _; rfl
  | node b o a e r _ ih => intro i s; show BT.node 0 0 a (itT F (its.map er) (er e) i s) (itsT F (its.map er) (er r) (i + 1) (itR F (its.map er) (er e) i s)) = _; rw [itR_er, itT_er, ih]; rfl
theorem itsOf_er (t : Tr) : itsOf (er t) = (itsOf t).map er := by unfold itsOf; rw [elems_er, gaT_er, toL_er]
theorem firstOf_er (t : Tr) : firstOf (er t) = firstOf t := by unfold firstOf; rw [elems_er, gaF_er]
theorem resI_er (t : Tr) : resI (er t) = resI t := by unfold resI; rw [firstOf_er, itsOf_er, elems_er, gaT_er, itsR_er]
theorem resS_er (t : Tr) (n : Int) : resS (er t) n = resS t n := by
  unfold resS
  rw [resI_er, firstOf_er, itsOf_er, funcOf_er]
  cases funcOf (firstOf t) (itsOf t) mainB <;> rfl
theorem resT_er (t : Tr) : resT (er t) = er (resT t) := by unfold resT; rw [firstOf_er, itsOf_er, elems_er, gaT_er, itsT_er, withL_er]
theorem resM_er (t : Tr) : resM (er t) = resM t := by
  unfold resM
  rw [firstOf_er, itsOf_er, funcOf_er]
  cases funcOf (firstOf t) (itsOf t) mainB with
  | none => rfl
  | some e => exact which_er e
theorem nPar_er (e : Tr) : nPar (er e) = nPar e := by
  cases e with
  | nil => rfl
  | node b o a l r => exact lenV_er l
end Go.Proofs.YtikffmloeifkpaaGreatDoor

/- Read: the tree behind names keeps its shape. -/
namespace Go.Proofs.YtikffmloeifkpaaGreatDoor
open Go.RowKit Go.Lib Go.Deep Go.ChangeMaps Go.MapKept
variable {F : Ents} {its : List Tr} {H pb : Nat}

theorem fresh_sh : ∀ (t t' : Tr), Sh t t' → Fresh H t → Fresh H t' := by
  intro t
  induction t with
  | nil => intro t' h _; cases t' with
    | nil => trivial
    | node => exact h.elim
  | node b o a l r ihl ihr =>
    intro t' h hf
    cases t' with
    | nil => exact h.elim
    | node b' o' a' l' r' =>
      obtain ⟨rfl, _, ht, _, _, _, _, _, _, _, hl, hr⟩ := h
      exact ⟨ihl _ hl hf.1, ihr _ hr hf.2.1, fun hp => hf.2.2 (by rw [← ht]; exact hp)⟩
theorem fresh_setW {e : Tr} (h : Fresh H e) (n : Int) : Fresh H (setW e n) := by
  cases e with
  | nil => trivial
  | node b o a l r => exact ⟨h.1, h.2.1, h.2.2⟩
theorem fresh_parT : ∀ (L : Tr) (s : Rs), Fresh H L → Fresh H (parT L s) := by
  intro L
  induction L with
  | nil => intro _ _; trivial
  | node b o a e r _ ih => intro s h; exact ⟨fresh_setW h.1 _, ih _ h.2.1, h.2.2⟩
theorem fresh_withL {t L : Tr} (h : Fresh H t) (hl : Fresh H L) : Fresh H (withL t L) := by
  cases t with
  | nil => trivial
  | node b o a l r => exact ⟨hl, h.2.1, h.2.2⟩
theorem fresh_itT {e : Tr} (i : Nat) (s : Rs) (h : Fresh H e) : Fresh H (itT F its e i s) := by
  cases e with
  | nil => trivial
  | node b o a l r =>
    show Fresh H (if a.tag = 16 then BT.node b o a l r else fnT F its (.node b o a l r) (s.twice F a i))
    split
    · exact h
    · cases r with
      | nil => exact h
      | node x y z p q =>
        exact ⟨fresh_withL h.1 (fresh_parT _ _ (fresh_elems h.1)), ⟨fresh_withL h.2.1.1 (fresh_sh _ _ (whT_sh _ _ _) (fresh_elems h.2.1.1)), fresh_sh _ _ (reT_sh _ _ _ _) h.2.1.2.1, h.2.1.2.2⟩, h.2.2⟩
theorem fresh_itsT : ∀ (L : Tr) (i : Nat) (s : Rs), Fresh H L → Fresh H (itsT F its L i s) := by
  intro L
  induction L with
  | nil => intro _ _ _; trivial
  | node b o a e r _ ih => intro i s h; exact ⟨fresh_itT i s h.1, ih _ _ h.2.1, h.2.2⟩
theorem resT_shape {t : Tr} (hw : Ws 8 t) : Ws 8 (resT t) ∧ ps (resT t) = ps t ∧ (∀ H, Fresh H t → Fresh H (resT t)) ∧ valT (resT t) = valT t := by
  have hL := hw.elems (.inr (.inr (.inr (.inr rfl))))
  have hg : Ws 18 (gaT (elems t) 0 0) := gaT_kind hL
  have sg := gaT_sh (elems t) 0 0 hL
  obtain ⟨h1, h2, h3, _, _⟩ := itsT_shape (F := firstOf t) (its := itsOf t) (gaT (elems t) 0 0) 0 rs0 hg
  have hln : lenL (itsT (firstOf t) (itsOf t) (gaT (elems t) 0 0) 0 rs0) = lenL (elems t) := h3.trans sg.lenL
  refine ⟨ws_withL (.inr (.inr (.inr (.inr rfl)))) hw h1 hln, ps_withL (.inr (.inr (.inr (.inr rfl)))) hw (h2.trans sg.ps), fun H hf => fresh_withL hf (fresh_itsT _ _ _ (fresh_gaT _ _ _ (fresh_elems hf))), ?_⟩
  rcases hw.lst (.inr (.inr (.inr (.inr rfl)))) with rfl | ⟨b, o, a, l, rfl, ht, _⟩
  · rfl
  · show (if a.tag = 20 then _ else _) = (if a.tag = 20 then _ else _)
    rw [if_pos ht, if_pos ht]
    congr 1
theorem ptrs_resT {t : Tr} (hw : Ws 8 t) : ptrs 17 (elems t) = (kindOf 17 (elems (resT t))).map ptrT := by
  have hL := hw.elems (.inr (.inr (.inr (.inr rfl))))
  rw [elems_resT hw, (kind_itsT _ _ _ (gaT_kind hL)).2.2, ptr_gaT, ptrs_kind]
theorem ptrs_len {w : World} {base n : Nat} {e : TypeId} {v : Value} {xs : List Value} (h : w.ownsRow base e 1 v n xs) : n = xs.length := by have := h.1; omega
theorem IsT.next {w w' : World} (hb : ∀ k, k < w.heap.size → w'.heap[k]? = w.heap[k]?) : ∀ {t : Tr}, IsT w t → IsT w' t := by
  intro t
  induction t with
  | nil => intro _; trivial
  | node b o a l r ihl ihr =>
    intro h
    refine ⟨ihl h.1, ihr h.2.1, ?_⟩
    have ho := h.2.2
    unfold Own at ho ⊢
    have key : ∀ {n : Nat}, OwnN n w b a l r → OwnN n w' b a l r := by
      intro n h
      match n, h with
      | 0, h | 1, h | 2, h | 3, h | 4, h | 5, h | 6, h | 7, h | 8, h | 9, h | 10, h | 11, h | 12, h | 13, h | 14, h | 16, h | 17, h => exact At.same h (hb _ (At.lt h))
      | 20, h => exact ⟨h.1, At.same h.2 (hb _ (At.lt h.2))⟩
      | 15, _ | 18, _ | 19, _ => trivial
      | n + 21, _ => trivial
    exact key ho
end Go.Proofs.YtikffmloeifkpaaGreatDoor

/- Read: all of it. -/
namespace Go.Proofs.YtikffmloeifkpaaGreatDoor
open Go.RowKit Go.Lib Go.Deep Go.ChangeMaps Go.MapKept

/-- The tree of a text's words, wherever it lies; what Read answers; the tree that it leaves. -/
def rdT (s : ByteArray) : Tr := (programP (toksOf s)).2
def readC (s : ByteArray) : Int × Int :=
  if 4000 < s.size then (1, 0) else if (cutOf s).code ≠ 0 then ((cutOf s).code, (cutOf s).pos)
  else if (programP (toksOf s)).1.code ≠ 0 then ((programP (toksOf s)).1.code, (programP (toksOf s)).1.pos) else ((resS (rdT s) s.size).code, (resS (rdT s) s.size).pos)
def fnsOf (t : Tr) : List Tr := kindOf 17 (elems (resT t))
def treeOf (s : ByteArray) : Tr := siT (fnsOf (rdT s)) (resT (rdT s)) []

/-- A program that was read: its words, its tree. -/
structure Pg0 (H g cap pb : Nat) (s : ByteArray) (t : Tr) (vA vF vS : Value) (w : World) : Prop where
  toks : Toks (toksOf s) g cap w
  er : YtikffmloeifkpaaGreatDoor.er t = rdT s
  ge : H ≤ pb
  prog : w.heap[pb]? = some (.cells (prgC (valT t) vA vF (resM t) vS) 111 (0, 0))
  arrs : w.ownsRow H 192 1 vA (naOf t) (ptrs 16 (elems t))
  fns : FnsW H vF (fnsOf t) w
  sites : w.ownsRow H 55 3 vS (siR (fnsOf t) (resT t) []).length (siteCells (siR (fnsOf t) (resT t) []))
  is : IsT w (siT (fnsOf t) (resT t) [])
  fresh : Fresh H t
structure PgW (ab : Nat) (s : ByteArray) (w : World) : Prop where
  ex : ∃ H g cap pb t vA vF vS, w.heap[ab]? = some (.cells #[.slice (some ⟨g, 0, none⟩) (toksOf s).length cap, .pointer (some ⟨pb, 0, none⟩)] 94 (0, 0)) ∧ Pg0 H g cap pb s t vA vF vS w
theorem Pg0.off {H g cap pb k : Nat} {s : ByteArray} {t : Tr} {vA vF vS : Value} {w w' : World} {c : Array Value} (h : Pg0 H g cap pb s t vA vF vS w) (hk : w.heap[k]? = some (.cells c 37 (0, 0))) (hw : ∀ i, i < w.heap.size → i ≠ k → w'.heap[i]? = w.heap[i]?) : Pg0 H g cap pb s t vA vF vS w' := by
  have off : ∀ {j : Nat} {c2 : Array Value} {ty : TypeId}, w.heap[j]? = some (.cells c2 ty (0, 0)) → ty ≠ 37 → w'.heap[j]? = w.heap[j]? := fun hj hne => hw _ (Array.getElem?_eq_some_iff.1 hj).1 (ne_typ hj hk hne)
  obtain ⟨cur, hg, htk⟩ := h.toks.row
  refine ⟨⟨⟨cur, (off hg (by decide)).trans hg, htk⟩, h.toks.cap_, h.toks.few, h.toks.pos, h.toks.last, h.toks.vals⟩, h.er, h.ge, (off h.prog (by decide)).trans h.prog, own_move h.arrs (fun j hj => ?_), ⟨own_move h.fns.row (fun j hj => ?_), fun e he => ?_⟩, own_move h.sites (fun j hj => ?_), IsT.off (.inl rfl) hk hw h.is, h.fresh⟩
  · obtain ⟨⟨c, hc⟩, _⟩ := own_typ h.arrs hj
    exact off hc (by decide)
  · obtain ⟨⟨c, hc⟩, _⟩ := own_typ h.fns.row hj
    exact off hc (by decide)
  · obtain ⟨b, o, a, l, x, y, z, p, q, e1, e2, e3⟩ := h.fns.own e he
    exact ⟨b, o, a, l, x, y, z, p, q, e1, At.off e2 hk (by decide) hw, e3⟩
  · obtain ⟨⟨c, hc⟩, _⟩ := own_typ h.sites hj
    exact off hc (by decide)
/-- What Read leaves. -/
def PostRd (s : ByteArray) (w : World) : Ending → World → Prop := fun e w' => Below w.heap.size w w' ∧
  (((readC s).1 ≠ 0 ∧ e = .returned (.tuple #[.pointer none, .agg #[.int .i64 (readC s).1, .int .i64 (readC s).2]])) ∨
   ((readC s).1 = 0 ∧ ∃ ab, e = .returned (.tuple #[.pointer (some ⟨ab, 0, none⟩), .agg #[.int .i64 0, .int .i64 0]]) ∧ PgW ab s w'))
theorem cells01 {w : World} {k : Nat} {u v : Value} {t : TypeId} (h : w.heap[k]? = some (.cells #[u, v] t (0, 0))) : w.cell? ⟨k, 0, none⟩ = some u ∧ w.cell? ⟨k, 1, none⟩ = some v ∧ ∀ o, w.frozen? ⟨k, o, none⟩ = false :=
  ⟨by rw [cell_of_row _ _ _ _ _ _ h]; rfl, by rw [cell_of_row _ _ _ _ _ _ h]; rfl, fun o => by simp [World.frozen?, h]⟩
theorem heap_two {w : World} {k : Nat} {u v u' v' : Value} {t : TypeId} (h : w.heap[k]? = some (.cells #[u, v] t (0, 0))) : ((w.setCell ⟨k, 0, none⟩ u').setCell ⟨k, 1, none⟩ v').heap[k]? = some (.cells #[u', v'] t (0, 0)) := by
  have h1 := heap_set (o := 0) u' h
  have h2 := heap_set (o := 1) v' h1
  exact h2
theorem set_two {w : World} {k : Nat} {u v : Value} : ∀ i, i ≠ k → ((w.setCell ⟨k, 0, none⟩ u).setCell ⟨k, 1, none⟩ v).heap[i]? = w.heap[i]? := fun _ hi => (Below.heap_setCell _ _ _ _ hi).trans (Below.heap_setCell _ _ _ _ hi)

set_option maxRecDepth 100000 in
set_option maxHeartbeats 8000000 in
theorem Read_any (s : ByteArray) (w : World) (ht : Tab w) (hz : s.size ≤ 4000) :
    Calls Tryz.prog 19 #[.string s] w (PostRd s w) := by
  have h0 := tab_pos ht
  have sa : (w.alloc (.cells #[.int .i64 0, .int .i64 0] 37)).heap.size = w.heap.size + 1 := by simp
  have ba : Below w.heap.size w (w.alloc (.cells #[.int .i64 0, .int .i64 0] 37)) := (Below.refl _ _).alloc (Nat.le_refl _) _
  have ta : Tab (w.alloc (.cells #[.int .i64 0, .int .i64 0] 37)) := ht.below ba h0
  have na : (w.alloc (.cells #[.int .i64 0, .int .i64 0] 37)).heap[w.heap.size]? = some (.cells #[.int .i64 0, .int .i64 0] 37 (0, 0)) := heap_alloc_new w _
  go_enter Tryz.func19, Tryz.ntmps19
  go_wp2_with fail
  generalize w.alloc (.cells #[.int .i64 0, .int .i64 0] 37) = Wa at *
  refine (Cut_any s Wa ta hz).mono ?_
  rintro e W1 ⟨b1, hres⟩
  rw [sa] at b1
  have l1 := b1.size
  have n1 : W1.heap[w.heap.size]? = some (.cells #[.int .i64 0, .int .i64 0] 37 (0, 0)) := (b1.block _ (by omega)).trans na
  have bb1 : Below w.heap.size w W1 := ba.trans (b1.mono (by omega))
  rcases hres with ⟨hc, rfl⟩ | ⟨hc, g, cap, rfl, hrow⟩
  · have hcode' : ((cutOf s).code != 0) = true := by simpa using hc
    have k1 : (W1.alloc (.cells #[.int .i64 (cutOf s).code, .int .i64 (cutOf s).pos] 37)).heap[w.heap.size]? = some (.cells #[.int .i64 0, .int .i64 0] 37 (0, 0)) := (Below.heap_alloc _ _ _ (by omega)).trans n1
    have k2 : (W1.alloc (.cells #[.int .i64 (cutOf s).code, .int .i64 (cutOf s).pos] 37)).heap[W1.heap.size]? = some (.cells #[.int .i64 (cutOf s).code, .int .i64 (cutOf s).pos] 37 (0, 0)) := heap_alloc_new _ _
    have bb2 : Below w.heap.size w (W1.alloc (.cells #[.int .i64 (cutOf s).code, .int .i64 (cutOf s).pos] 37)) := bb1.alloc (by omega) _
    have hne : w.heap.size ≠ W1.heap.size := by omega
    have hread : readC s = ((cutOf s).code, (cutOf s).pos) := by unfold readC; rw [if_neg (by omega), if_pos hc]
    go_wp2_with fail
    generalize W1.alloc (.cells #[.int .i64 (cutOf s).code, .int .i64 (cutOf s).pos] 37) = W2 at *
    obtain ⟨q0, q1, z0⟩ := cells01 k1
    obtain ⟨p0, p1, z1⟩ := cells01 k2
    have HR : Hid _ := hread
    have HC : Hid _ := hc
    clear hread hc ba b1 bb1 n1 na ta ht h0 hz k1 k2
    generalize hc3 : (cutOf s).code = c3 at *
    generalize hc4 : (cutOf s).pos = c4 at *
    clear hc3 hc4
    go_region
    all_goals go_wp2
    all_goals obtain ⟨x0, x1⟩ := two_set (w := W2) (u0 := .int .i64 c3) (u1 := .int .i64 c4) q0 q1
    all_goals (refine bodyPost_ret (v := .tuple #[.pointer none, .agg #[.int .i64 c3, .int .i64 c4]]) (by simp [results, Tryz.results19, go_sem, x0, x1]) rfl ⟨?_, Or.inl ⟨?_, ?_⟩⟩)
    all_goals first | (rw [HR.out]; exact HC.out) | (rw [HR.out]) | exact (Below.setCell (p := ⟨w.heap.size, 1, none⟩) (Below.setCell (p := ⟨w.heap.size, 0, none⟩) bb2 (Nat.le_refl _) _) (Nat.le_refl _) _).drew | exact Below.setCell (p := ⟨w.heap.size, 1, none⟩) (Below.setCell (p := ⟨w.heap.size, 0, none⟩) bb2.drew (Nat.le_refl _) _) (Nat.le_refl _) _
  · have hlen : (toksOf s).length = (cutOf s).words.length + 1 := by simp [toksOf]
    have hsm := toks_small hc hz
    have htoks : Toks (toksOf s) g cap (W1.alloc (.cells #[.int .i64 0, .int .i64 0] 37)) := by
      rcases hrow.2 with ⟨hv, _⟩ | ⟨g', cap', cur, hv, hb, hh, hle, hmx, hcs, htk⟩
      · cases hv
      · simp only [Value.slice.injEq, Option.some.injEq, Addr.mk.injEq] at hv
        obtain ⟨⟨rfl, _, _⟩, _, rfl⟩ := hv
        exact ⟨⟨cur, (Below.heap_alloc _ _ _ (Array.getElem?_eq_some_iff.1 hh).1).trans hh, by rw [hlen]; exact htk⟩, by rw [hlen]; exact hle, hsm.few, by rw [hlen]; omega, toks_ends s, hsm.vals⟩
    have hP := Parse_any (toksOf s) g cap _ htoks
    rw [hlen] at hP
    have s2 : (W1.alloc (.cells #[.int .i64 0, .int .i64 0] 37)).heap.size = W1.heap.size + 1 := by simp
    have k1 : (W1.alloc (.cells #[.int .i64 0, .int .i64 0] 37)).heap[w.heap.size]? = some (.cells #[.int .i64 0, .int .i64 0] 37 (0, 0)) := (Below.heap_alloc _ _ _ (by omega)).trans n1
    have k2 : (W1.alloc (.cells #[.int .i64 0, .int .i64 0] 37)).heap[W1.heap.size]? = some (.cells #[.int .i64 0, .int .i64 0] 37 (0, 0)) := heap_alloc_new _ _
    have bb2 : Below w.heap.size w (W1.alloc (.cells #[.int .i64 0, .int .i64 0] 37)) := bb1.alloc (by omega) _
    have hne : w.heap.size ≠ W1.heap.size := by omega
    go_wp2_with fail
    generalize W1.alloc (.cells #[.int .i64 0, .int .i64 0] 37) = W2 at *
    refine hP.mono ?_
    rintro e W3 ⟨b3, hres⟩
    have l3 := b3.size
    have m1 := (b3.block w.heap.size (by omega)).trans k1
    have m2 := (b3.block W1.heap.size (by omega)).trans k2
    have bb3 : Below w.heap.size w W3 := bb2.trans (b3.mono (by omega))
    have htoks3 : Toks (toksOf s) g cap W3 := by
      obtain ⟨cur, hg, htk⟩ := htoks.row
      exact ⟨⟨cur, (b3.block g (Array.getElem?_eq_some_iff.1 hg).1).trans hg, htk⟩, htoks.cap_, htoks.few, htoks.pos, htoks.last, htoks.vals⟩
    obtain ⟨q0, q1, z0⟩ := cells01 m1
    obtain ⟨p0, p1, z1⟩ := cells01 m2
    rcases hres with ⟨hpc, rfl⟩ | ⟨hpc, pb, t, rfl, hpb, hprog, her, hnew, hni⟩
    · have hread : readC s = ((programP (toksOf s)).1.code, (programP (toksOf s)).1.pos) := by unfold readC; rw [if_neg (by omega), if_neg (by omega), if_pos hpc]
      have HR : Hid _ := hread
      have HC : Hid _ := hpc
      have hcode' : ((programP (toksOf s)).1.code != 0) = true := by simpa using hpc
      have e1 := (set_two (w := W3) (k := W1.heap.size) (u := .int .i64 (programP (toksOf s)).1.code) (v := .int .i64 (programP (toksOf s)).1.pos) w.heap.size hne).trans m1
      have e2 := heap_two (u' := .int .i64 (programP (toksOf s)).1.code) (v' := .int .i64 (programP (toksOf s)).1.pos) m2
      have bb4 : Below w.heap.size w ((W3.setCell ⟨W1.heap.size, 0, none⟩ (.int .i64 (programP (toksOf s)).1.code)).setCell ⟨W1.heap.size, 1, none⟩ (.int .i64 (programP (toksOf s)).1.pos)) := (bb3.setCell (p := ⟨W1.heap.size, 0, none⟩) (by show w.heap.size ≤ W1.heap.size; omega) _).setCell (p := ⟨W1.heap.size, 1, none⟩) (by show w.heap.size ≤ W1.heap.size; omega) _
      clear hread hpc ba b1 bb1 n1 na ta ht h0 hz k1 k2 hc hrow hlen hsm htoks hP htoks3 b3 bb2 m1 m2
      generalize hc3 : (programP (toksOf s)).1.code = c3 at *
      generalize hc4 : (programP (toksOf s)).1.pos = c4 at *
      clear hc3 hc4
      go_wp2_with fail
      generalize (W3.setCell ⟨W1.heap.size, 0, none⟩ (.int .i64 c3)).setCell ⟨W1.heap.size, 1, none⟩ (.int .i64 c4) = W4 at *
      clear q0 q1 z0 p0 p1 z1 bb3
      obtain ⟨q0, q1, z0⟩ := cells01 e1
      obtain ⟨p0, p1, z1⟩ := cells01 e2
      clear e1 e2
      go_region
      all_goals go_wp2
      all_goals obtain ⟨x0, x1⟩ := two_set (w := W4) (u0 := .int .i64 c3) (u1 := .int .i64 c4) q0 q1
      all_goals (refine bodyPost_ret (v := .tuple #[.pointer none, .agg #[.int .i64 c3, .int .i64 c4]]) (by simp [results, Tryz.results19, go_sem, x0, x1]) rfl ⟨?_, Or.inl ⟨?_, ?_⟩⟩)
      all_goals first | (rw [HR.out]; exact HC.out) | (rw [HR.out]) | exact (Below.setCell (p := ⟨w.heap.size, 1, none⟩) (Below.setCell (p := ⟨w.heap.size, 0, none⟩) bb4 (Nat.le_refl _) _) (Nat.le_refl _) _).drew | exact Below.setCell (p := ⟨w.heap.size, 1, none⟩) (Below.setCell (p := ⟨w.heap.size, 0, none⟩) bb4.drew (Nat.le_refl _) _) (Nat.le_refl _) _
    · have hw8 : Ws 8 t := (Ws.er t 8).1 (by rw [her]; exact (ok_program hsm (toks_ends s) htoks.pos hpc).1)
      have hsg := sg_ps (toks_up hc) (by have := (ok_program hsm (toks_ends s) htoks.pos hpc).2; exact this)
      have hps : ps t = ps (programP (toksOf s)).2 := by rw [← ps_er t, her]
      rw [← hps] at hsg
      obtain ⟨hnd, hlen2⟩ := hsg
      have hfew := htoks.few
      have hle := lets_le t
      have e1 := (set_two (w := W3) (k := W1.heap.size) (u := .int .i64 0) (v := .int .i64 0) w.heap.size hne).trans m1
      have e2 := heap_two (u' := .int .i64 0) (v' := .int .i64 0) m2
      have bb4 : Below w.heap.size w ((W3.setCell ⟨W1.heap.size, 0, none⟩ (.int .i64 0)).setCell ⟨W1.heap.size, 1, none⟩ (.int .i64 0)) := (bb3.setCell (p := ⟨W1.heap.size, 0, none⟩) (by show w.heap.size ≤ W1.heap.size; omega) _).setCell (p := ⟨W1.heap.size, 1, none⟩) (by show w.heap.size ≤ W1.heap.size; omega) _
      have hnt : NotIn W1.heap.size t := hnew.fresh.notIn (by omega)
      have hnew4 := (hnew.set hnt 0 (.int .i64 0)).set hnt 1 (.int .i64 0)
      have hprog4 : ((W3.setCell ⟨W1.heap.size, 0, none⟩ (.int .i64 0)).setCell ⟨W1.heap.size, 1, none⟩ (.int .i64 0)).heap[pb]? = some (.cells (prgC (valT t) (.slice none 0 0) (.slice none 0 0) 0 (.slice none 0 0)) 111 (0, 0)) := (set_two pb (by omega)).trans hprog
      have htoks4 : Toks (toksOf s) g cap ((W3.setCell ⟨W1.heap.size, 0, none⟩ (.int .i64 0)).setCell ⟨W1.heap.size, 1, none⟩ (.int .i64 0)) := by
        obtain ⟨cur, hg, htk⟩ := htoks3.row
        exact ⟨⟨cur, (set_two g (ne_typ hg m2 (by decide))).trans hg, htk⟩, htoks3.cap_, htoks3.few, htoks3.pos, htoks3.last, htoks3.vals⟩
      have l4 : ((W3.setCell ⟨W1.heap.size, 0, none⟩ (.int .i64 0)).setCell ⟨W1.heap.size, 1, none⟩ (.int .i64 0)).heap.size = W3.heap.size := by simp [World.setCell]
      have hres4 := Resolve_any hw8 hnew.fresh hnd (by omega) hpb s.size _ (by rw [l4]; exact b3.size) hnew4.is hprog4
      go_wp2_with fail
      generalize (W3.setCell ⟨W1.heap.size, 0, none⟩ (.int .i64 0)).setCell ⟨W1.heap.size, 1, none⟩ (.int .i64 0) = W4 at *
      refine hres4.mono ?_
      rintro e W5 ⟨rfl, l5, os5, tp5, out5, bl5, hok5⟩
      have bb5 : Below w.heap.size w W5 := bb4.trans ⟨os5, tp5, out5, l5, fun k hk => bl5 k (by omega)⟩
      have f1 := (bl5 w.heap.size (by omega)).trans e1
      have f2 := (bl5 W1.heap.size (by omega)).trans e2
      have hg5 : ∀ k, k < W2.heap.size → W5.heap[k]? = W4.heap[k]? := bl5
      have hfresh := hnew.fresh
      clear q0 q1 z0 p0 p1 z1 m1 m2 hprog hprog4 hnew4 hnew bl5
      obtain ⟨q0, q1, z0⟩ := cells01 f1
      obtain ⟨p0, p1, z1⟩ := cells01 f2
      have hrs : resS (rdT s) s.size = resS t s.size := by rw [← resS_er t]; show resS (rdT s) _ = resS (er t) _; rw [her]; rfl
      have hread : readC s = ((resS t s.size).code, (resS t s.size).pos) := by unfold readC; rw [if_neg (by omega), if_neg (by omega), if_neg (by omega), hrs]
      have e1 := (set_two (w := W5) (k := W1.heap.size) (u := .int .i64 (resS t s.size).code) (v := .int .i64 (resS t s.size).pos) w.heap.size hne).trans f1
      have e2 := heap_two (u' := .int .i64 (resS t s.size).code) (v' := .int .i64 (resS t s.size).pos) f2
      have bb6 : Below w.heap.size w ((W5.setCell ⟨W1.heap.size, 0, none⟩ (.int .i64 (resS t s.size).code)).setCell ⟨W1.heap.size, 1, none⟩ (.int .i64 (resS t s.size).pos)) := (bb5.setCell (p := ⟨W1.heap.size, 0, none⟩) (by show w.heap.size ≤ W1.heap.size; omega) _).setCell (p := ⟨W1.heap.size, 1, none⟩) (by show w.heap.size ≤ W1.heap.size; omega) _
      by_cases hrc : (resS t s.size).code = 0
      · have hpok := prog_ok hw8 hrc
        obtain ⟨w8, pps, hfr, hval⟩ := resT_shape hw8
        obtain ⟨nA, nF, vA, vF, hp5, hA5, hF5, hT5⟩ := hok5 hrc
        have hc0 : (readC s).1 = 0 := by rw [hread]; exact hrc
        rw [hrc] at e2 bb6 e1
        have oth : ∀ i, i < W5.heap.size → i ≠ W1.heap.size → ((W5.setCell ⟨W1.heap.size, 0, none⟩ (.int .i64 0)).setCell ⟨W1.heap.size, 1, none⟩ (.int .i64 (resS t s.size).pos)).heap[i]? = W5.heap[i]? := fun i _ hi => set_two i hi
        have hA6 := own_move (w' := (W5.setCell ⟨W1.heap.size, 0, none⟩ (.int .i64 0)).setCell ⟨W1.heap.size, 1, none⟩ (.int .i64 (resS t s.size).pos)) hA5 (fun j hj => by
          obtain ⟨⟨c, hcj⟩, _⟩ := own_typ hA5 hj
          exact set_two j (ne_typ hcj f2 (by decide)))
        have hF6 := own_move (w' := (W5.setCell ⟨W1.heap.size, 0, none⟩ (.int .i64 0)).setCell ⟨W1.heap.size, 1, none⟩ (.int .i64 (resS t s.size).pos)) hF5 (fun j hj => by
          obtain ⟨⟨c, hcj⟩, _⟩ := own_typ hF5 hj
          exact set_two j (ne_typ hcj f2 (by decide)))
        have hT6 := IsT.off (.inl rfl) f2 oth hT5
        have hp6 := (set_two (w := W5) (k := W1.heap.size) (u := .int .i64 0) (v := .int .i64 (resS t s.size).pos) pb (by omega)).trans hp5
        obtain rfl := ptrs_len hA5
        obtain rfl := ptrs_len hF5
        rw [ptrs_resT hw8, List.length_map] at hF6
        have l6 : ((W5.setCell ⟨W1.heap.size, 0, none⟩ (.int .i64 0)).setCell ⟨W1.heap.size, 1, none⟩ (.int .i64 (resS t s.size).pos)).heap.size = W5.heap.size := by simp [World.setCell]
        have hlA : (ptrs 16 (elems t)).length = naOf t := by rw [ptrs_kind, List.length_map]; rfl
        rw [hlA] at hA6
        have htoks6 : Toks (toksOf s) g cap ((W5.setCell ⟨W1.heap.size, 0, none⟩ (.int .i64 0)).setCell ⟨W1.heap.size, 1, none⟩ (.int .i64 (resS t s.size).pos)) := by
          obtain ⟨cur, hg, htk⟩ := htoks4.row
          obtain ⟨cur2, hg2, htk2⟩ := htoks.row
          have hgl := (Array.getElem?_eq_some_iff.1 hg2).1
          have hg5' := (hg5 g hgl).trans hg
          exact ⟨⟨cur, (set_two g (ne_typ hg5' f2 (by decide))).trans hg5', htk⟩, htoks4.cap_, htoks4.few, htoks4.pos, htoks4.last, htoks4.vals⟩
        have hgl : g < W2.heap.size := by
          obtain ⟨cur2, hg2, htk2⟩ := htoks.row
          exact (Array.getElem?_eq_some_iff.1 hg2).1
        have hnum := Number_any w8 (hfr _ hfresh) (by rw [pps]; exact hnd) (hpok.cv w8) hpb _ (by rw [l6]; omega) hT6 hp6 hF6 (by rw [pps]; omega)
        rw [hrc]
        have HC0 : Hid _ := hc0
        have HER : Hid (er t = rdT s) := her
        have HFRE : Hid (Fresh W2.heap.size t) := hfresh
        have HLEN : Hid _ := hlen
        clear hread hrc hrs hok5 f1 f2 bb5 hg5 hres4 htoks4 bb4 hw8 hps hnd hlen2 hfew hle hnt htoks3 hP htoks hsm hrow hc hpc her hfresh hc0 hp5 hA5 hF5 hT5 oth hpok w8 pps hfr hT6 hF6 hp6 hlA hlen
        generalize (resS t s.size).pos = c4 at *
        go_wp2_with fail
        generalize (W5.setCell ⟨W1.heap.size, 0, none⟩ (.int .i64 0)).setCell ⟨W1.heap.size, 1, none⟩ (.int .i64 c4) = W6 at *
        refine hnum.mono ?_
        rintro e W7 ⟨rfl, nb, hsi, hT7, fr7⟩
        have bb7 : Below w.heap.size w W7 := bb6.trans ⟨fr7.os, fr7.tape, fr7.output, fr7.size, fun k hk => fr7.below k (by omega)⟩
        have g1 := (fr7.below w.heap.size (by omega)).trans e1
        obtain ⟨vS, hp7, hS7⟩ := hsi.prog
        have hA7 := own_row_fr hA6 fr7 (.inl rfl) (fun t p hp => (Pt.body t p hp).pos)
        have htoks7 : Toks (toksOf s) g cap W7 := by
          obtain ⟨cur, hg, htk⟩ := htoks6.row
          exact ⟨⟨cur, (fr7.below g hgl).trans hg, htk⟩, htoks6.cap_, htoks6.few, htoks6.pos, htoks6.last, htoks6.vals⟩
        have P7 : Pg0 W2.heap.size g cap pb s t vA vF vS W7 := ⟨htoks7, HER.out, hpb, hp7, hA7, hsi.fns, hS7, hT7, HFRE.out⟩
        have l7 := bb7.size
        have hlt7 : w.heap.size < W7.heap.size := (Array.getElem?_eq_some_iff.1 g1).1
        clear q0 q1 z0 p0 p1 z1
        obtain ⟨q0, q1, z0⟩ := cells01 g1
        have FIN : Hid (Below w.heap.size w (((W7.setCell ⟨w.heap.size, 0, none⟩ (.int .i64 0)).setCell ⟨w.heap.size, 1, none⟩ (.int .i64 0)).alloc (.cells #[.slice (some ⟨g, 0, none⟩) ((cutOf s).words.length + 1) cap, .pointer (some ⟨pb, 0, none⟩)] 94)) ∧ PgW W7.heap.size s (((W7.setCell ⟨w.heap.size, 0, none⟩ (.int .i64 0)).setCell ⟨w.heap.size, 1, none⟩ (.int .i64 0)).alloc (.cells #[.slice (some ⟨g, 0, none⟩) ((cutOf s).words.length + 1) cap, .pointer (some ⟨pb, 0, none⟩)] 94))) := by
          have lz : ((W7.setCell ⟨w.heap.size, 0, none⟩ (.int .i64 0)).setCell ⟨w.heap.size, 1, none⟩ (.int .i64 0)).heap.size = W7.heap.size := by simp [World.setCell]
          refine ⟨((bb7.setCell (Nat.le_refl _) _).setCell (Nat.le_refl _) _).alloc (by rw [lz]; exact l7) _, _, g, cap, pb, t, vA, vF, vS, ?_, P7.off g1 (fun i hi hne => ?_)⟩
          · rw [HLEN.out, ← lz]
            exact heap_alloc_new _ _
          · exact (Below.heap_alloc _ _ _ (by rw [lz]; exact hi)).trans (set_two i hne)
        have g2 : (((W7.setCell ⟨w.heap.size, 0, none⟩ (.int .i64 0)).setCell ⟨w.heap.size, 1, none⟩ (.int .i64 0)).alloc (.cells #[.slice (some ⟨g, 0, none⟩) ((cutOf s).words.length + 1) cap, .pointer (some ⟨pb, 0, none⟩)] 94)).heap[w.heap.size]? = some (.cells #[.int .i64 0, .int .i64 0] 37 (0, 0)) := (Below.heap_alloc _ _ _ (by simp [World.setCell]; omega)).trans (heap_two g1)
        obtain ⟨x0, x1, _⟩ := cells01 g2
        clear hsi hT7 fr7 hp7 hS7 hA7 htoks7 P7 e1 e2 bb6 bb7 g1 hnum hA6 htoks6
        go_wp2
        refine bodyPost_ret (v := .tuple #[.pointer (some ⟨W7.heap.size, 0, none⟩), .agg #[.int .i64 0, .int .i64 0]]) (by simp [results, Tryz.results19, go_sem, x0, x1]) rfl ⟨FIN.out.1, .inr ⟨HC0.out, _, rfl, FIN.out.2⟩⟩
      · have hcode' : ((resS t s.size).code != 0) = true := by simpa using hrc
        have HR : Hid _ := hread
        have HC : Hid _ := hrc
        clear hread hrc hrs hok5 f1 f2 bb5 hg5 hres4 htoks4 bb4 hw8 hps hnd hlen2 hfew hle hnt htoks3 hP htoks hsm hrow hc hpc her hfresh
        generalize hc3 : (resS t s.size).code = c3 at *
        generalize hc4 : (resS t s.size).pos = c4 at *
        clear hc3 hc4
        go_wp2_with fail
        generalize (W5.setCell ⟨W1.heap.size, 0, none⟩ (.int .i64 c3)).setCell ⟨W1.heap.size, 1, none⟩ (.int .i64 c4) = W6 at *
        clear q0 q1 z0 p0 p1 z1
        obtain ⟨q0, q1, z0⟩ := cells01 e1
        obtain ⟨p0, p1, z1⟩ := cells01 e2
        clear e1 e2
        go_region
        all_goals go_wp2
        all_goals obtain ⟨x0, x1⟩ := two_set (w := W6) (u0 := .int .i64 c3) (u1 := .int .i64 c4) q0 q1
        all_goals (refine bodyPost_ret (v := .tuple #[.pointer none, .agg #[.int .i64 c3, .int .i64 c4]]) (by simp [results, Tryz.results19, go_sem, x0, x1]) rfl ⟨?_, Or.inl ⟨?_, ?_⟩⟩)
        all_goals first | (rw [HR.out]; exact HC.out) | (rw [HR.out]) | exact (Below.setCell (p := ⟨w.heap.size, 1, none⟩) (Below.setCell (p := ⟨w.heap.size, 0, none⟩) bb6 (Nat.le_refl _) _) (Nat.le_refl _) _).drew | exact Below.setCell (p := ⟨w.heap.size, 1, none⟩) (Below.setCell (p := ⟨w.heap.size, 0, none⟩) bb6.drew (Nat.le_refl _) _) (Nat.le_refl _) _
end Go.Proofs.YtikffmloeifkpaaGreatDoor

/- Read: of any text; Params. -/
namespace Go.Proofs.YtikffmloeifkpaaGreatDoor
open Go.RowKit Go.Lib Go.Deep Go.ChangeMaps Go.MapKept

set_option maxRecDepth 100000 in
set_option maxHeartbeats 4000000 in
theorem Read_long (s : ByteArray) (w : World) (hz : 4000 < s.size) (hm : s.size ≤ maxLen) : Calls Tryz.prog 19 #[.string s] w (PostRd s w) := by
  have sa : (w.alloc (.cells #[.int .i64 0, .int .i64 0] 37)).heap.size = w.heap.size + 1 := by simp
  have ba : Below w.heap.size w (w.alloc (.cells #[.int .i64 0, .int .i64 0] 37)) := (Below.refl _ _).alloc (Nat.le_refl _) _
  have na : (w.alloc (.cells #[.int .i64 0, .int .i64 0] 37)).heap[w.heap.size]? = some (.cells #[.int .i64 0, .int .i64 0] 37 (0, 0)) := heap_alloc_new w _
  have hread : readC s = (1, 0) := by unfold readC; rw [if_pos hz]
  go_enter Tryz.func19, Tryz.ntmps19
  go_wp2_with fail
  generalize w.alloc (.cells #[.int .i64 0, .int .i64 0] 37) = Wa at *
  refine (Cut_long s Wa hz hm).mono ?_
  rintro e W1 ⟨rfl, b1⟩
  rw [sa] at b1
  have l1 := b1.size
  have n1 : W1.heap[w.heap.size]? = some (.cells #[.int .i64 0, .int .i64 0] 37 (0, 0)) := (b1.block _ (by omega)).trans na
  have bb1 : Below w.heap.size w W1 := ba.trans (b1.mono (by omega))
  have k1 : (W1.alloc (.cells #[.int .i64 1, .int .i64 0] 37)).heap[w.heap.size]? = some (.cells #[.int .i64 0, .int .i64 0] 37 (0, 0)) := (Below.heap_alloc _ _ _ (by omega)).trans n1
  have k2 : (W1.alloc (.cells #[.int .i64 1, .int .i64 0] 37)).heap[W1.heap.size]? = some (.cells #[.int .i64 1, .int .i64 0] 37 (0, 0)) := heap_alloc_new _ _
  have bb2 : Below w.heap.size w (W1.alloc (.cells #[.int .i64 1, .int .i64 0] 37)) := bb1.alloc (by omega) _
  have hne : w.heap.size ≠ W1.heap.size := by omega
  go_wp2_with fail
  generalize W1.alloc (.cells #[.int .i64 1, .int .i64 0] 37) = W2 at *
  obtain ⟨q0, q1, z0⟩ := cells01 k1
  obtain ⟨p0, p1, z1⟩ := cells01 k2
  have HR : Hid _ := hread
  clear hread ba b1 bb1 n1 na hz k1 k2
  go_region
  all_goals go_wp2
  all_goals obtain ⟨x0, x1⟩ := two_set (w := W2) (u0 := .int .i64 1) (u1 := .int .i64 0) q0 q1
  all_goals (refine bodyPost_ret (v := .tuple #[.pointer none, .agg #[.int .i64 1, .int .i64 0]]) (by simp [results, Tryz.results19, go_sem, x0, x1]) rfl ⟨?_, Or.inl ⟨?_, ?_⟩⟩)
  all_goals first | (rw [HR.out]; decide) | (rw [HR.out]) | exact (Below.setCell (p := ⟨w.heap.size, 1, none⟩) (Below.setCell (p := ⟨w.heap.size, 0, none⟩) bb2 (Nat.le_refl _) _) (Nat.le_refl _) _).drew | exact Below.setCell (p := ⟨w.heap.size, 1, none⟩) (Below.setCell (p := ⟨w.heap.size, 0, none⟩) bb2.drew (Nat.le_refl _) _) (Nat.le_refl _) _
/-- Every Read. -/
theorem Read_all (s : ByteArray) (w : World) (ht : Tab w) (hm : s.size ≤ maxLen) : Calls Tryz.prog 19 #[.string s] w (PostRd s w) := by
  rcases Nat.lt_or_ge 4000 s.size with h | h
  · exact Read_long s w h hm
  · exact Read_any s w ht h
/-- A program that was read stays while memory grows. -/
theorem Pg0.next {H g cap pb : Nat} {s : ByteArray} {t : Tr} {vA vF vS : Value} {w w' : World} (h : Pg0 H g cap pb s t vA vF vS w) (hw : ∀ i, i < w.heap.size → w'.heap[i]? = w.heap[i]?) : Pg0 H g cap pb s t vA vF vS w' := by
  have off : ∀ {j : Nat} {c2 : Array Value} {ty : TypeId}, w.heap[j]? = some (.cells c2 ty (0, 0)) → w'.heap[j]? = w.heap[j]? := fun hj => hw _ (Array.getElem?_eq_some_iff.1 hj).1
  obtain ⟨cur, hg, htk⟩ := h.toks.row
  refine ⟨⟨⟨cur, (off hg).trans hg, htk⟩, h.toks.cap_, h.toks.few, h.toks.pos, h.toks.last, h.toks.vals⟩, h.er, h.ge, (off h.prog).trans h.prog, own_move h.arrs (fun j hj => ?_), ⟨own_move h.fns.row (fun j hj => ?_), fun e he => ?_⟩, own_move h.sites (fun j hj => ?_), IsT.next hw h.is, h.fresh⟩
  · obtain ⟨⟨c, hc⟩, _⟩ := own_typ h.arrs hj
    exact off hc
  · obtain ⟨⟨c, hc⟩, _⟩ := own_typ h.fns.row hj
    exact off hc
  · obtain ⟨b, o, a, l, x, y, z, p, q, e1, e2, e3⟩ := h.fns.own e he
    exact ⟨b, o, a, l, x, y, z, p, q, e1, At.same e2 (hw _ (At.lt e2)), e3⟩
  · obtain ⟨⟨c, hc⟩, _⟩ := own_typ h.sites hj
    exact off hc
theorem PgW.next {ab : Nat} {s : ByteArray} {w w' : World} (h : PgW ab s w) (hw : ∀ i, i < w.heap.size → w'.heap[i]? = w.heap[i]?) : PgW ab s w' := by
  obtain ⟨H, g, cap, pb, t, vA, vF, vS, h1, h2⟩ := h.ex
  exact ⟨H, g, cap, pb, t, vA, vF, vS, (hw _ (Array.getElem?_eq_some_iff.1 h1).1).trans h1, h2.next hw⟩
end Go.Proofs.YtikffmloeifkpaaGreatDoor

/- Package walk: a run, plainly. -/
namespace Go.Proofs.YtikffmloeifkpaaGreatDoor
open Go.RowKit Go.Lib Go.Deep Go.ChangeMaps Go.MapKept

/-- What all functions share while a program runs. -/
structure Rn where
  arr : Nat → Int
  fuel : Nat
  calls : Nat
  fin : Int
  site : Int
  outs : List Int
def Rn.stop (r : Rn) (e : Int) : Rn := if r.fin = 0 then { r with fin := e } else r
def Rn.trap (r : Rn) (s : Int) : Rn := if r.fin = 0 then { r with fin := 2, site := s } else r
def Rn.burns (r : Rn) : Bool := decide (r.fuel ≠ 0) && decide (r.fin = 0)
def Rn.burn (r : Rn) : Rn := if r.fuel = 0 then r.stop 3 else if r.fin = 0 then { r with fuel := r.fuel - 1 } else r
def Rn.out (r : Rn) (v : Int) : Rn := if r.fin = 0 then { r with outs := r.outs ++ [v] } else r
def upd (f : Nat → Int) (i : Nat) (v : Int) : Nat → Int := fun j => if j = i then v else f j
def w64 (v : Int) : Int := wrap64 v
def hd (l : List Int) : Int := l.headD 0
/-- Two numbers: what comes of them; a division by 0 is looked at ahead of it. -/
def arith (op a b : Int) : Int := if op = 27 then w64 (a + b) else if op = 28 then w64 (a - b) else if op = 29 then w64 (a * b) else if op = 30 then w64 (a.tdiv b) else a.tmod b
def holds (op a b : Int) : Bool := if op = 23 then decide (a < b) else if op = 24 then decide (a ≤ b) else if op = 25 then decide (b < a) else if op = 26 then decide (b ≤ a) else if op = 21 then decide (a = b) else decide (a ≠ b)
def inside (lens : Nat → Int) (k i : Int) : Bool := decide (0 ≤ i) && decide (i < lens k.toNat)
def cellNo (k i : Int) : Nat := k.toNat * 64 + i.toNat

/-- What a call does: which function, its arguments, its site. -/
abbrev Cl := Int → List Int → Int → Rn → Int × Rn
/-- An expression; a list of them. -/
def exW (lens : Nat → Int) (C : Cl) (vars : Nat → Int) : Tr → Rn → List Int × Rn
  | .nil, r => ([], r)
  | .node _ _ a l q, r =>
    if a.tag = 0 then ([a.val], r) else if a.tag = 1 then ([vars a.which.toNat], r)
    else if a.tag = 2 then
      (if inside lens a.which (hd (exW lens C vars l r).1) then ([(exW lens C vars l r).2.arr (cellNo a.which (hd (exW lens C vars l r).1))], (exW lens C vars l r).2) else ([0], (exW lens C vars l r).2.trap a.site))
    else if a.tag = 3 then ([(C a.which (exW lens C vars l r).1 a.site (exW lens C vars l r).2).1], (C a.which (exW lens C vars l r).1 a.site (exW lens C vars l r).2).2)
    else if a.tag = 4 ∨ a.tag = 20 then exW lens C vars l r
    else if a.tag = 5 then ([w64 (-hd (exW lens C vars l r).1)], (exW lens C vars l r).2)
    else if a.tag = 6 then
      (if 30 ≤ a.op ∧ hd (exW lens C vars q (exW lens C vars l r).2).1 = 0 then ([0], (exW lens C vars q (exW lens C vars l r).2).2.trap a.site)
       else ([arith a.op (hd (exW lens C vars l r).1) (hd (exW lens C vars q (exW lens C vars l r).2).1)], (exW lens C vars q (exW lens C vars l r).2).2))
    else if a.tag = 15 then ((exW lens C vars l r).1 ++ (exW lens C vars q (exW lens C vars l r).2).1, (exW lens C vars q (exW lens C vars l r).2).2)
    else ([], r)
/-- A condition. -/
def cdW (lens : Nat → Int) (C : Cl) (vars : Nat → Int) : Tr → Rn → Bool × Rn
  | .nil, r => (false, r)
  | .node _ _ a l q, r =>
    if a.tag = 7 then (holds a.op (hd (exW lens C vars l r).1) (hd (exW lens C vars q (exW lens C vars l r).2).1), (exW lens C vars q (exW lens C vars l r).2).2)
    else if a.op = 32 then (if (cdW lens C vars l r).1 then cdW lens C vars q (cdW lens C vars l r).2 else (false, (cdW lens C vars l r).2))
    else (if (cdW lens C vars l r).1 then (true, (cdW lens C vars l r).2) else cdW lens C vars q (cdW lens C vars l r).2)
/-- A function that runs: whether it goes on, its variables, what return said, the run. -/
structure Fm where
  on : Bool
  vars : Nat → Int
  value : Int
  run : Rn
/-- A while: as long as there is fuel and the condition holds. -/
def loopW (c : Fm → Bool × Rn) (f : Fm → Fm) : Nat → Fm → Fm
  | 0, m => m
  | n + 1, m =>
    if m.run.burns then
      (if (c { m with run := m.run.burn }).1 then
        (if (f { m with run := (c { m with run := m.run.burn }).2 }).on then loopW c f n (f { m with run := (c { m with run := m.run.burn }).2 }) else f { m with run := (c { m with run := m.run.burn }).2 })
       else { m with run := (c { m with run := m.run.burn }).2 })
    else { m with run := m.run.burn }
/-- A statement, a block. -/
def stW (lens : Nat → Int) (C : Cl) : Tr → Fm → Fm
  | .nil, m => m
  | .node _ _ a l q, m =>
    if a.tag = 20 ∨ a.tag = 18 then stW lens C l m
    else if a.tag = 15 then
      (if m.run.burns then (if (stW lens C l { m with run := m.run.burn }).on then stW lens C q (stW lens C l { m with run := m.run.burn }) else stW lens C l { m with run := m.run.burn }) else { m with on := false, run := m.run.burn })
    else if a.tag = 9 then { m with vars := upd m.vars a.which.toNat (hd (exW lens C m.vars l m.run).1), run := (exW lens C m.vars l m.run).2 }
    else if a.tag = 10 then
      (if inside lens a.which (hd (exW lens C m.vars l m.run).1) then
        { m with run := { (exW lens C m.vars q (exW lens C m.vars l m.run).2).2 with arr := upd (exW lens C m.vars q (exW lens C m.vars l m.run).2).2.arr (cellNo a.which (hd (exW lens C m.vars l m.run).1)) (hd (exW lens C m.vars q (exW lens C m.vars l m.run).2).1) } }
       else { m with run := (exW lens C m.vars q (exW lens C m.vars l m.run).2).2.trap a.site })
    else if a.tag = 11 then
      (match q with
        | .node _ _ _ x y => if (cdW lens C m.vars l m.run).1 then stW lens C x { m with run := (cdW lens C m.vars l m.run).2 } else stW lens C y { m with run := (cdW lens C m.vars l m.run).2 }
        | .nil => m)
    else if a.tag = 12 then loopW (fun m => cdW lens C m.vars l m.run) (stW lens C q) (m.run.fuel + 1) m
    else if a.tag = 13 then { m with on := false, value := hd (exW lens C m.vars l m.run).1, run := (exW lens C m.vars l m.run).2 }
    else if a.tag = 14 then { m with run := (exW lens C m.vars l m.run).2.out (hd (exW lens C m.vars l m.run).1) }
    else m
/-- A function's conditions, of its arguments. -/
def tkW (vars : Nat → Int) : Tr → Bool
  | .nil => true
  | .node _ _ a e q => if a.tag = 20 then tkW vars e else (cdW (fun _ => 0) (fun _ _ _ r => (0, r)) vars e ⟨fun _ => 0, 0, 0, 0, 0, []⟩).1 && tkW vars q
def args0 (l : List Int) : Nat → Int := fun i => l.getD i 0
/-- The parts of a function. -/
def whereOf : Tr → Tr
  | .node _ _ _ _ (.node _ _ _ p _) => p
  | _ => .nil
def bodyOf : Tr → Tr
  | .node _ _ _ _ (.node _ _ _ _ q) => q
  | _ => .nil
/-- A function is entered. -/
def enW (B : Tr → Fm → Fm) (e : Tr) (vars : Nat → Int) (r : Rn) : Int × Rn :=
  let r1 : Rn := { (if r.calls = 60 then r.stop 4 else r) with calls := r.calls + 1 }
  if r1.burns then ((B (bodyOf e) ⟨true, vars, 0, r1.burn⟩).value, { (B (bodyOf e) ⟨true, vars, 0, r1.burn⟩).run with calls := (B (bodyOf e) ⟨true, vars, 0, r1.burn⟩).run.calls - 1 })
  else (0, { r1.burn with calls := r1.burn.calls - 1 })
/-- A call, to a depth. -/
def clW (lens : Nat → Int) (fl : List Tr) : Nat → Cl
  | 0, k, l, s, r => enW (fun _ m => m) (fl.getD k.toNat .nil) (args0 l) (if tkW (args0 l) (whereOf (fl.getD k.toNat .nil)) then r else r.trap s)
  | d + 1, k, l, s, r => enW (stW lens (clW lens fl d)) (fl.getD k.toNat .nil) (args0 l) (if tkW (args0 l) (whereOf (fl.getD k.toNat .nil)) then r else r.trap s)
def lensOf (al : List Tr) (k : Nat) : Int := match al[k]? with
  | some (.node _ _ a _ _) => a.val
  | _ => 0
/-- What Walk answers: how it ended, a value, a site, what was told. -/
structure Rs4 where
  fin : Int
  value : Int
  site : Int
  outs : List Int
def runW (t : Tr) (m : Int) (args : List Int) (fuel : Int) : Rs4 :=
  let al := kindOf 16 (elems t)
  let fl := kindOf 17 (elems t)
  let main := fl.getD m.toNat .nil
  let f : Nat := (min (max fuel 0) 20000).toNat
  let r0 : Rn := ⟨fun _ => 0, f, 0, 0, -1, []⟩
  if args.length ≠ nPar main ∨ tkW (args0 args) (whereOf main) = false then ⟨5, 0, -1, []⟩
  else
    let x := enW (stW (lensOf al) (clW (lensOf al) fl f)) main (args0 args) r0
    if x.2.fin = 0 then ⟨1, x.1, x.2.site, x.2.outs⟩ else ⟨x.2.fin, 0, x.2.site, x.2.outs⟩
/-- What Walk answers of a text. -/
def walkC (s : ByteArray) (args : List Int) (fuel : Int) : Rs4 := runW (treeOf s) (resM (rdT s)) args fuel
end Go.Proofs.YtikffmloeifkpaaGreatDoor
