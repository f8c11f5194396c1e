/- The program's contracts, part 15: each says what a function of the program does, for every argument that its premises name. -/
import Derived.Test.YtikffmloeifkpaaGreatDoorM14
/- Package names: a function. -/
namespace Go.Proofs.YtikffmloeifkpaaGreatDoor
open Go.RowKit Go.Lib Go.Deep Go.ChangeMaps Go.MapKept
variable {H pb rb fb vb : Nat} {pc : Array Value} {F : Ents} {its : List Tr}

theorem ws21 {t : Tr} (h : Ws 21 t) : Ws 0 t := by
  cases t with
  | nil => exact absurd h (by unfold Ws nilOk; simp)
  | node b o a l r =>
    obtain ⟨hok, x, y, hsig, hl, hr⟩ := h.parts
    have ht : a.tag ≤ 1 := by
      by_cases h1 : a.tag ≤ 1
      · exact h1
      · exfalso; simp [sig, h1] at hsig
    have e : x = 99 ∧ y = 99 := by simp [sig, ht] at hsig; omega
    obtain ⟨rfl, rfl⟩ := e
    exact Ws.of (x := 99) (y := 99) (by simp [sig, ht]) hok hl hr (by omega)
theorem ws20 {t : Tr} (h : Ws 20 t) : ∃ b o a l r, t = .node b o a l r ∧ a.tag = 7 ∧ Ws 21 l ∧ Ws 21 r := by
  cases t with
  | nil => exact absurd h (by unfold Ws nilOk; simp)
  | node b o a l r =>
    obtain ⟨hok, x, y, hsig, hl, hr⟩ := h.parts
    have ht : a.tag = 7 := by
      by_cases h1 : a.tag = 7
      · exact h1
      · exfalso; simp [sig, h1] at hsig
    rw [ht] at hsig
    cases hsig
    exact ⟨b, o, a, l, r, rfl, ht, hl, hr⟩
theorem whT_sh : ∀ (t : Tr) (i : Nat) (s : Rs), Sh t (whT F its t i s) := by
  intro t
  induction t with
  | nil => intro i s; trivial
  | node b o a e r _ ih =>
    intro i s
    refine ⟨rfl, rfl, rfl, rfl, rfl, rfl, rfl, rfl, fun _ => rfl, fun _ => rfl, ?_, ih _ _⟩
    cases e with
    | nil => trivial
    | node b2 o2 a2 x y => exact ⟨rfl, rfl, rfl, rfl, rfl, rfl, rfl, rfl, fun _ => rfl, fun _ => rfl, reT_sh _ _ _ _, reT_sh _ _ _ _⟩
theorem whR_vars : ∀ (t : Tr) (i : Nat) (s : Rs), (whR F its t i s).vars.length ≤ s.vars.length + lets t := by
  intro t
  induction t with
  | nil => intro i s; exact Nat.le_refl _
  | node b o a e r _ ih =>
    intro i s
    have h1 := ih (i + 1) (rsT F its (sideR e) ((rsT F its (sideL e) s).fifth i (posOfT e)))
    have h2 := vars_le (F := F) (its := its) (sideR e) ((rsT F its (sideL e) s).fifth i (posOfT e))
    have h3 := vars_le (F := F) (its := its) (sideL e) s
    have h4 : ((rsT F its (sideL e) s).fifth i (posOfT e)).vars = (rsT F its (sideL e) s).vars := by
      unfold Rs.fifth; split
      · exact Rs.fail_vars _ _ _
      · rfl
    rw [h4] at h2
    have h5 : lets (sideL e) + lets (sideR e) ≤ lets e := by
      cases e with
      | nil => exact Nat.le_refl _
      | node b2 o2 a2 x y => rw [lets_node]; show lets x + lets y ≤ _; omega
    rw [lets_node]
    show (whR F its r (i + 1) _).vars.length ≤ _
    omega
/-- An element of the list of conditions, where it lies. -/
theorem lst_cell7 {w : World} {t : Tr} (h : Ws 5 t) {P : TypeId → Int → Prop} {w0 : World} (hi : IsT w0 t) (hx : Fr H P w0 w) (hP : ∀ t p, P t p → bodyTyp t) {ao : Option Addr} {n cp i : Nat} (hv : valT t = .slice ao n cp) {b o : Nat} {a : Nd} {e r : Tr} (hd : dropL i (elems t) = .node b o a e r) (hE : ∃ b o a l r, e = .node b o a l r ∧ a.tag = 7) :
    ∃ g, ao = some ⟨g, 0, none⟩ ∧ w.cell? ⟨g, i, none⟩ = some (ptrT e) := by
  rcases h.lst (.inr (.inr (.inl rfl))) with rfl | ⟨b0, o0, a0, l0, rfl, ht, _⟩
  · cases i <;> cases hd
  · have hv2 : valT (.node b0 o0 a0 l0 .nil) = .slice (some ⟨b0, 0, none⟩) (lenL l0) o0 := if_pos ht
    rw [hv2] at hv
    simp only [Value.slice.injEq] at hv
    refine ⟨b0, hv.1.symm, ?_⟩
    have ho := hi.2.2
    have hne : l0 ≠ .nil := (own_tag ho (n := 20) ht).1
    have hpo : po a0 = [] := by unfold po; rw [ht]; rfl
    have o2 : Own w b0 a0 l0 .nil := OwnN.fr hx (fun t p hp => (hP t p hp).pos) ho (fun p hp => by rw [hpo] at hp; cases hp) (fun e => ⟨h.list e hne, fun p _ hq => absurd (hP _ _ hq) (by unfold bodyTyp; decide)⟩)
    obtain ⟨_, cs, hc, hr⟩ := own_tag o2 (n := 20) ht
    have h1 := rowOk_drop i 0 l0 hr
    replace hd : dropL i l0 = .node b o a e r := hd
    rw [hd, Nat.zero_add] at h1
    obtain ⟨b2, o2, a2, l2, r2, rfl, h7⟩ := hE
    have h2 : (if a2.tag = 19 then Nam cs (i * 3) a2 else if a2.tag = 7 then cs[i]? = some (ptrT (.node b2 o2 a2 l2 r2)) else cs[i]? = some (valT (.node b2 o2 a2 l2 r2))) := h1.1
    rw [if_neg (by omega), if_pos h7] at h2
    rw [cell_of_row _ _ _ _ _ _ hc]
    exact h2

/-- The conditions gone through up to the i-th. -/
structure LpW (H pb rb fb vb : Nat) (pc : Array Value) (F : Ents) (its : List Tr) (L : Tr) (S1 : Rs) (W1 : World) (i : Nat) (si : Rs) (wr : World) : Prop where
  rs : RsW H pb rb fb vb pc F si wr
  fr : Fr H (Pt L) W1 wr
  rest : IsT wr (dropL i L)
  wand : ∀ w2, Fr H (Pt (dropL i L)) wr w2 → IsT w2 (whT F its (dropL i L) i si) → IsT w2 (whT F its L 0 S1)
  run : whR F its (dropL i L) i si = whR F its L 0 S1
variable {L : Tr} {S1 si : Rs} {W1 wr w2 w3 w4 : World} {i : Nat}
theorem LpW.start (h : RsW H pb rb fb vb pc F S1 W1) (hi : IsT W1 L) : LpW H pb rb fb vb pc F its L S1 W1 0 S1 W1 := ⟨h, Fr.refl _ _ _, hi, fun _ _ h => h, rfl⟩
theorem LpW.step (h : LpW H pb rb fb vb pc F its L S1 W1 i si wr) (hw : Ws 15 L) (hnd : (ps L).Nodup) {b o b2 o2 : Nat} {a a2 : Nd} {x y r : Tr} (hd : dropL i L = .node b o a (.node b2 o2 a2 x y) r) (hd2 : dropL (i + 1) L = r)
    (i2 : IsT w2 (reT F its x si)) (x2 : Fr H (Pt x) wr w2) (x3 : Fr H F0 w2 w3) (h4 : RsW H pb rb fb vb pc F (rsT F its y ((rsT F its x si).fifth i a2.pos)) w4) (i4 : IsT w4 (reT F its y ((rsT F its x si).fifth i a2.pos))) (x4 : Fr H (Pt y) w3 w4) :
    LpW H pb rb fb vb pc F its L S1 W1 (i + 1) (rsT F its y ((rsT F its x si).fifth i a2.pos)) w4 := by
  have hwd := ws_drop (.inr (.inr (.inl rfl))) i _ hw
  have uq := nd_drop i _ hnd
  have hps := ps_drop i L
  obtain ⟨_, hfr, rest, wand, run⟩ := h
  rw [hd] at hwd uq hps rest wand run
  obtain ⟨h15, hwe, hwr⟩ := ws_rest (.inr (.inr (.inl rfl))) hwd
  have uq := uq_of uq
  have ue := uq_of (b := b2) (o := o2) uq.left
  obtain ⟨_, _, _, _, _, e7, h7, hx21, hy21⟩ := ws20 hwe
  simp only [BT.node.injEq] at e7
  obtain ⟨rfl, rfl, rfl, rfl, rfl⟩ := e7
  have x24 : Fr H (Pt (.node b2 o2 a2 x y)) wr w4 := ((x2.mono Pt.left).trans (x3.mono F0.to)).trans (x4.mono Pt.right)
  refine ⟨h4, hfr.trans (x24.mono fun t p hp => ⟨hp.1, hps p (ps_left hp.2)⟩), ?_, fun wf hx hi => ?_, ?_⟩
  · rw [hd2]
    exact IsT.fr x24 (fun t p hp => (Pt.body t p hp).pos) hwr rest.2.1 (Pt.out uq.apart)
  · rw [hd2] at hx hi
    refine wand wf ((x24.mono Pt.left).trans (hx.mono Pt.right)) ⟨?_, hi, by unfold Own; rw [h15]; trivial⟩
    have o2' := own_fr rest.1.2.2 x2 Pt.body (fun p hp ty hq => ue.own_l p hp hq.2) (by omega)
    have o3 := own_fr o2' x3 F0.body (fun p hp ty hq => hq) (by omega)
    have o4 := own_fr o3 x4 Pt.body (fun p hp ty hq => ue.own_r p hp hq.2) (by omega)
    have k3 : IsT w3 (reT F its x si) := IsT.fr x3 (fun t p hp => absurd hp id) ((reT_sh F its x si).ws (ws21 hx21)) i2 (fun _ _ _ h => h)
    have k4 := keep_re k3 x4 (ws21 hx21) (reT_sh _ _ _ _) ue.apart_
    have hT : IsT w4 (BT.node b2 o2 a2 (reT F its x si) (reT F its y ((rsT F its x si).fifth i a2.pos))) := ⟨k4, i4, own_sh o4 (reT_sh _ _ _ _) (reT_sh _ _ _ _)⟩
    have hsh : Sh (BT.node b2 o2 a2 x y) (BT.node b2 o2 a2 (reT F its x si) (reT F its y ((rsT F its x si).fifth i a2.pos))) := ⟨rfl, rfl, rfl, rfl, rfl, rfl, rfl, rfl, fun _ => rfl, fun _ => rfl, reT_sh _ _ _ _, reT_sh _ _ _ _⟩
    exact keep_re hT hx hwe hsh uq.apart_
  · rw [hd2]; exact run
theorem LpW.fin (h : LpW H pb rb fb vb pc F its L S1 W1 (lenL L) si wr) : si = whR F its L 0 S1 ∧ IsT wr (whT F its L 0 S1) := by
  obtain ⟨_, _, _, wand, run⟩ := h
  rw [dropL_end] at wand run
  exact ⟨run, wand wr (Fr.refl _ _ _) trivial⟩

/-- A function's own block. -/
def FnW (w : World) (b : Nat) (a : Nd) (l p q : Tr) : Prop := At w b 105 fun cs => Nam cs 0 a ∧ cs[3]? = some (valT l) ∧ cs[4]? = some (valT p) ∧ cs[5]? = some (valT q) ∧ cs[6]? = some (.int .i64 a.val)
theorem FnW.fr {P : TypeId → Int → Prop} {b : Nat} {a : Nd} {l p q : Tr} {w w' : World} (h : FnW w b a l p q) (hx : Fr H P w w') (hP : ∀ t p, P t p → inTyp t) : FnW w' b a l p q := hx.at h (by simp [treeTyp, treeTyp0]) (fun _ _ p _ hp => (hP _ _ hp).2.1 rfl)
theorem FnW.cells {b : Nat} {a : Nd} {l p q : Tr} {w : World} (h : FnW w b a l p q) : w.cell? ⟨b, 2, none⟩ = some (.int .i64 a.which) ∧ w.cell? ⟨b, 1, none⟩ = some (.int .i64 a.npos) ∧ w.cell? ⟨b, 3, none⟩ = some (valT l) ∧ w.cell? ⟨b, 4, none⟩ = some (valT p) ∧ w.cell? ⟨b, 5, none⟩ = some (valT q) ∧ w.cell? ⟨b, 6, none⟩ = some (.int .i64 a.val) ∧ w.frozen? ⟨b, 6, none⟩ = false := by
  obtain ⟨cs, hc, hn, h3, h4, h5, h6⟩ := h
  exact ⟨by rw [cell_of_row _ _ _ _ _ _ hc]; exact hn.2.2, by rw [cell_of_row _ _ _ _ _ _ hc]; exact hn.2.1, by rw [cell_of_row _ _ _ _ _ _ hc]; exact h3, by rw [cell_of_row _ _ _ _ _ _ hc]; exact h4, by rw [cell_of_row _ _ _ _ _ _ hc]; exact h5, by rw [cell_of_row _ _ _ _ _ _ hc]; exact h6, by simp [World.frozen?, hc]⟩
/-- The places of an item. -/
def PI (t : Tr) : TypeId → Int → Prop := fun ty p => posTyp ty ∧ p ∈ ps t
def PostF (H pb rb fb vb : Nat) (pc : Array Value) (F : Ents) (its : List Tr) (t : Tr) (t' : Tr) (s' : Rs) (w : World) : Ending → World → Prop := fun e w' => e = .returned (.tuple #[]) ∧ NsW H pb rb fb vb pc F its s' w' ∧ IsT w' t' ∧ Fr H (PI t) w w'
theorem ItO.set6 {b k : Nat} {a : Nd} {l : Tr} {w : World} {cs : Array Value} {t : TypeId} (h : ItO w b a l) (hk : w.heap[k]? = some (.cells cs t (0, 0))) (v : Value) : ItO (w.setCell ⟨k, 6, none⟩ v) b a l := by
  have key : ∀ (ty : TypeId) (R : Array Value → Prop), (∀ c, R c → R (c.setIfInBounds 6 v)) → At w b ty R → At (w.setCell ⟨k, 6, none⟩ v) b ty R := by
    intro ty R hR ⟨c, hc, hr⟩
    by_cases e : b = k
    · subst e
      exact ⟨_, heap_set v hc, hR c hr⟩
    · exact ⟨c, (Below.heap_setCell _ _ _ _ e).trans hc, hr⟩
  have hn : ∀ c : Array Value, Nam c 0 a → Nam (c.setIfInBounds 6 v) 0 a := fun c h => ⟨(Array.getElem?_setIfInBounds_ne (by omega)).trans h.1, (Array.getElem?_setIfInBounds_ne (by omega)).trans h.2.1, (Array.getElem?_setIfInBounds_ne (by omega)).trans h.2.2⟩
  rcases h with ⟨h1, h2⟩ | ⟨h1, h2⟩
  · exact .inl ⟨h1, key _ _ (fun c h => hn c h) h2⟩
  · exact .inr ⟨h1, key _ _ (fun c h => ⟨hn c h.1, (Array.getElem?_setIfInBounds_ne (by omega)).trans h.2⟩) h2⟩
theorem withL_sh {s : Nat} (hs : s = 3 ∨ s = 4 ∨ s = 5 ∨ s = 6 ∨ s = 8) {t L : Tr} (h : Ws s t) (hl : Sh (elems t) L) : Sh t (withL t L) := by
  rcases h.lst hs with rfl | ⟨b, o, a, l, rfl, _, _⟩
  · trivial
  · exact ⟨rfl, rfl, rfl, rfl, rfl, rfl, rfl, rfl, fun _ => rfl, fun _ => rfl, hl, trivial⟩
theorem withL_val {s : Nat} (hs : s = 3 ∨ s = 4 ∨ s = 5 ∨ s = 6 ∨ s = 8) {t L : Tr} (h : Ws s t) (hl : lenL L = lenL (elems t)) : valT (withL t L) = valT t := by
  rcases h.lst hs with rfl | ⟨b, o, a, l, rfl, ht, _⟩
  · rfl
  · show (if a.tag = 20 then Value.slice (some ⟨b, 0, none⟩) (lenL L) o else _) = (if a.tag = 20 then Value.slice (some ⟨b, 0, none⟩) (lenL l) o else _)
    rw [if_pos ht, if_pos ht, hl]; rfl
theorem clear_vars (s : Rs) : s.clear.vars = [] := rfl

/-- The list of conditions, gone through. -/
theorem wh_done {t : Tr} {P : TypeId → Int → Prop} {w w' : World} {S : Rs} (h : Ws 5 t) (hi : IsT w t) (hx : Fr H P w w') (hP : ∀ t p, P t p → bodyTyp t) (hd : IsT w' (whT F its (elems t) 0 S)) : IsT w' (withL t (whT F its (elems t) 0 S)) := by
  rcases h.lst (.inr (.inr (.inl rfl))) with rfl | ⟨b, o, a, l, rfl, ht, hl⟩
  · trivial
  · have ho := hi.2.2
    have hne : l ≠ .nil := (own_tag ho (n := 20) ht).1
    have hpo : po a = [] := by unfold po; rw [ht]; rfl
    have o2 : Own w' b a l .nil := OwnN.fr hx (fun t p hp => (hP t p hp).pos) ho (fun p hp => by rw [hpo] at hp; cases hp) (fun e => ⟨h.list e hne, fun p _ hq => absurd (hP _ _ hq) (by unfold bodyTyp; decide)⟩)
    exact ⟨hd, trivial, own_sh o2 (whT_sh _ _ _) (Sh.refl _)⟩
/-- The list of parameters, gone through. -/
theorem par_done {t : Tr} {w : World} {S : Rs} (h : Ws 6 t) (hrow : elems t ≠ .nil → ∀ b o a l r, t = .node b o a l r → At w b 100 fun cs => rowOk cs 0 (parT (elems t) S)) (hne0 : ∀ b o a l r, t = .node b o a l r → l ≠ .nil) : IsT w (withL t (parT (elems t) S)) := by
  rcases h.lst (.inr (.inr (.inr (.inl rfl)))) with rfl | ⟨b, o, a, l, rfl, ht, hl⟩
  · trivial
  · have hne : l ≠ .nil := hne0 _ _ _ _ _ rfl
    obtain ⟨h1, h2, h3, _⟩ := parT_shape l S
    refine ⟨isT_par w l S hl, trivial, ?_⟩
    unfold Own
    rw [ht]
    refine ⟨fun e => hne (h3.1 e), ?_⟩
    have hty : rowTyp l = 100 := by
      cases l with
      | nil => exact absurd rfl hne
      | node b2 o2 a2 e r =>
        obtain ⟨_, hwe, _⟩ := ws_rest (.inr (.inr (.inr (.inl rfl)))) hl
        cases e with
        | nil => exact absurd hwe (by unfold Ws nilOk; simp)
        | node b3 o3 a3 x y =>
          obtain ⟨_, sx, sy, hsig, _⟩ := hwe.parts
          have h19 : a3.tag = 19 := by
            by_cases h : a3.tag = 19
            · exact h
            · exfalso; simp [sig, h] at hsig
          exact if_pos h19
    show At w b (rowTyp (parT l S)) _
    rw [h2, hty]
    exact hrow hne _ _ _ _ _ rfl

set_option maxRecDepth 100000 in
set_option maxHeartbeats 16000000 in
theorem function_names {b o x y : Nat} {a z : Nd} {l p q : Tr} (hpar : ParOk its) (ht : a.tag = 17) (hz : z.tag = 18) (hwl : Ws 6 l) (hwp : Ws 5 p) (hwq : Ws 4 q) (hF : Fresh H (.node b o a l (.node x y z p q))) (hnd : (ps (.node b o a l (.node x y z p q))).Nodup) (hlets : 20000 + lets p + lets q ≤ 1000000)
    (s : Rs) (w : World) (h : NsW H pb rb fb vb pc F its s w) (hi : IsT w (.node b o a l (.node x y z p q))) :
    Calls Tryz.prog 128 #[.pointer (some ⟨rb, 0, none⟩), .pointer (some ⟨b, 0, none⟩)] w (PostF H pb rb fb vb pc F its (.node b o a l (.node x y z p q)) (fnT F its (.node b o a l (.node x y z p q)) s) (fnR F its (.node b o a l (.node x y z p q)) s) w) := by
  have hbH : H ≤ b := hF.2.2 (by unfold placed; omega)
  have u1 := uq_of hnd
  have u2 := uq_of (b := x) (o := y) u1.right
  have hpo : po a = [a.npos] := by unfold po; rw [ht]; rfl
  have alp : ∀ k ∈ ps l, k ∉ ps p := fun k h1 h2 => u1.apart k h1 (ps_left h2)
  have alq : ∀ k ∈ ps l, k ∉ ps q := fun k h1 h2 => u1.apart k h1 (ps_right h2)
  have hPsl := ps_elems (.inr (.inr (.inr (.inl rfl)))) hwl
  have hPsp := ps_elems (.inr (.inr (.inl rfl))) hwp
  have hwL := hwl.elems (.inr (.inr (.inr (.inl rfl))))
  have hwP := hwp.elems (.inr (.inr (.inl rfl)))
  have hndP : (ps (elems p)).Nodup := by rw [← hPsp]; exact u2.left
  have hfn : FnW w b a l p q := by
    obtain ⟨cs, hc, hn, h3, x', y', z', p', q', e, h4, h5, h6⟩ := own_tag hi.2.2 (n := 17) ht
    simp only [BT.node.injEq] at e
    obtain ⟨rfl, rfl, rfl, rfl, rfl⟩ := e
    exact ⟨cs, hc, hn, h3, h4, h5, h6⟩
  obtain ⟨m2, m1, _, _, _, _, _⟩ := hfn.cells
  obtain ⟨ao, cp, hvl⟩ := hwl.lstval (.inr (.inr (.inr (.inl rfl))))
  obtain ⟨ao2, cp2, hvp⟩ := hwp.lstval (.inr (.inr (.inl rfl)))
  obtain ⟨ao3, cp3, hvq⟩ := hwq.lstval (.inr (.inl rfl))
  have hlen1 := lenV_le (.inr (.inr (.inr (.inl rfl)))) hwl
  have hlen2 := lenV_le (.inr (.inr (.inl rfl))) hwp
  have hGq : GS 196 H pb rb fb vb pc F its valT q := (parts_any hpar (szT q) q (Nat.le_refl _) hF.2.1.2.1 u2.right).2.2.2.1 hwq
  have HGq : Hid (GS 196 H pb rb fb vb pc F its valT q) := hGq
  have hGe : ∀ t, Fresh H t → (ps t).Nodup → Ws 0 t → GN 195 H pb rb fb vb pc F its valT t := fun t h1 h2 h3 => (parts_any hpar (szT t) t (Nat.le_refl _) h1 h2).1 h3
  have HGe : Hid _ := hGe
  -- what the parameters' row is
  have hrow0 : elems l ≠ .nil → ∃ g, ao = some ⟨g, 0, none⟩ ∧ H ≤ g ∧ (∃ cs, w.heap[g]? = some (.cells cs 100 (0, 0)) ∧ rowOk cs 0 (elems l)) ∧ ∀ b o a l' r, l = .node b o a l' r → b = g := by
    intro hne
    rcases hwl.lst (.inr (.inr (.inr (.inl rfl)))) with rfl | ⟨b0, o0, a0, l0, rfl, ht0, hl0⟩
    · exact absurd rfl hne
    · have hv2 : valT (.node b0 o0 a0 l0 .nil) = .slice (some ⟨b0, 0, none⟩) (lenL l0) o0 := if_pos ht0
      rw [hv2] at hvl
      simp only [Value.slice.injEq] at hvl
      obtain ⟨hne2, cs, hc, hr⟩ := own_tag hi.1.2.2 (n := 20) ht0
      have hty : rowTyp l0 = 100 := by
        cases l0 with
        | nil => exact absurd rfl hne2
        | node b2 o2 a2 e r =>
          obtain ⟨_, hwe, _⟩ := ws_rest (.inr (.inr (.inr (.inl rfl)))) hl0
          cases e with
          | nil => exact absurd hwe (by unfold Ws nilOk; simp)
          | node b3 o3 a3 x y =>
            obtain ⟨_, sx, sy, hsig, _⟩ := hwe.parts
            have h19 : a3.tag = 19 := by
              by_cases h : a3.tag = 19
              · exact h
              · exfalso; simp [sig, h] at hsig
            exact if_pos h19
      rw [hty] at hc
      refine ⟨b0, hvl.1.symm, hF.1.2.2 (by unfold placed; omega), ⟨cs, hc, hr⟩, fun _ _ _ _ _ e => ?_⟩
      simp only [BT.node.injEq] at e
      exact e.1.symm
  have hne0 : ∀ b o a l' r, l = .node b o a l' r → l' ≠ .nil := by
    intro b0 o0 a0 l0 r0 e
    rcases hwl.lst (.inr (.inr (.inr (.inl rfl)))) with h0 | ⟨b1, o1, a1, l1, e1, ht1, _⟩
    · rw [h0] at e; cases e
    · rw [e1] at e
      simp only [BT.node.injEq] at e
      obtain ⟨rfl, rfl, rfl, rfl, rfl⟩ := e
      have := hi.1
      rw [e1] at this
      exact (own_tag this.2.2 (n := 20) ht1).1
  have HROW : Hid _ := hrow0
  -- the end
  have FIN : Hid (∀ (g : Nat) (S0 : Rs) (W2 W3 W4 W5 : World), s.few a = S0 → (elems l ≠ .nil → ∀ b o a l' r, l = .node b o a l' r → b = g) →
      Fr H F0 w W2 → Fr H (PN (elems l)) W2 W3 → (elems l ≠ .nil → At W3 g 100 fun cs => rowOk cs 0 (parT (elems l) S0.clear)) → Fr H (Pt (elems p)) W3 W4 → IsT W4 (whT F its (elems p) 0 (parR (elems l) S0.clear)) → Fr H (Pt q) W4 W5 →
      IsT W5 (reT F its q (whR F its (elems p) 0 (parR (elems l) S0.clear))) → RsW H pb rb fb vb pc F (rsT F its q (whR F its (elems p) 0 (parR (elems l) S0.clear))) W5 →
      PostF H pb rb fb vb pc F its (.node b o a l (.node x y z p q)) (fnT F its (.node b o a l (.node x y z p q)) s) (fnR F its (.node b o a l (.node x y z p q)) s) w (.returned (.tuple #[])) (W5.setCell ⟨b, 6, none⟩ (.int .i64 (rsT F its q (whR F its (elems p) 0 (parR (elems l) S0.clear))).vars.length))) := by
    intro g S0 W2 W3 W4 W5 hS0 hg x2 x3 hrow3 x4 i4 x5 i5 h5
    have hR : fnR F its (.node b o a l (.node x y z p q)) s = rsT F its q (whR F its (elems p) 0 (parR (elems l) S0.clear)) := by show rsT F its q (whR F its (elems p) 0 (parR (elems l) (s.few a).clear)) = _; rw [hS0]
    have hT : fnT F its (.node b o a l (.node x y z p q)) s = .node b o { a with val := (rsT F its q (whR F its (elems p) 0 (parR (elems l) S0.clear))).vars.length } (withL l (parT (elems l) S0.clear)) (.node x y z (withL p (whT F its (elems p) 0 (parR (elems l) S0.clear))) (reT F its q (whR F its (elems p) 0 (parR (elems l) S0.clear)))) := by
      show BT.node b o { a with val := (rsT F its q (whR F its (elems p) 0 (parR (elems l) (s.few a).clear))).vars.length } (withL l (parT (elems l) (s.few a).clear)) (.node x y z (withL p (whT F its (elems p) 0 (parR (elems l) (s.few a).clear))) (reT F its q (whR F its (elems p) 0 (parR (elems l) (s.few a).clear)))) = _
      rw [hS0]
    rw [hR, hT]
    -- frames
    have f3 := hfn.fr (x2.mono (F0.to (P := PN (elems l)))) PN.inT
    have f3 := f3.fr x3 PN.inT
    have f4 := f3.fr x4 (fun t p h => (Pt.body t p h).inT)
    have f5 := f4.fr x5 (fun t p h => (Pt.body t p h).inT)
    obtain ⟨cs, hc, hn, c3, c4, c5, c6⟩ := f5
    have n5 : NsW H pb rb fb vb pc F its (rsT F its q (whR F its (elems p) 0 (parR (elems l) S0.clear))) W5 := by
      refine ⟨h5, ?_, h.fo⟩
      have t2 := h.it.fr x2 (fun _ _ h => absurd h id)
      have t3 := t2.fr x3 PN.inT
      have t4 := t3.fr x4 (fun t p h => (Pt.body t p h).inT)
      exact t4.fr x5 (fun t p h => (Pt.body t p h).inT)
    have hfw : Fr H (PI (.node b o a l (.node x y z p q))) W5 (W5.setCell ⟨b, 6, none⟩ (.int .i64 (rsT F its q (whR F its (elems p) 0 (parR (elems l) S0.clear))).vars.length)) :=
      (Fr.refl H _ W5).write hc hbH (by omega) hn.2.1 ⟨by simp [posTyp], po_ps (by rw [hpo]; simp)⟩ _
    have hff : Fr H (fun ty k => ty = 105 ∧ k = a.npos) W5 (W5.setCell ⟨b, 6, none⟩ (.int .i64 (rsT F its q (whR F its (elems p) 0 (parR (elems l) S0.clear))).vars.length)) :=
      (Fr.refl H _ W5).write hc hbH (by omega) hn.2.1 ⟨rfl, rfl⟩ _
    have hffp : ∀ (ty : TypeId) (k : Int), (ty = 105 ∧ k = a.npos) → posTyp ty := fun ty k h => by rw [h.1]; simp [posTyp]
    refine ⟨rfl, ⟨?_, ⟨fun hp => ?_, fun t ht => ?_, n5.it.few⟩, n5.fo⟩, ⟨?_, ⟨?_, ?_, ?_⟩, ?_⟩, ?_⟩
    · exact h5.which hc (by simp [treeTyp, treeTyp0]) _
    · obtain ⟨g', cp', rw', e1, e2, e3⟩ := n5.it.row hp
      exact ⟨g', cp', rw', e1, hff.same e2 (by simp [treeTyp, treeTyp0]) (fun k _ hk => absurd hk.1 (by decide)), e3⟩
    · obtain ⟨b1, o1, a1, l1, r1, e1, e2⟩ := n5.it.own t ht
      exact ⟨b1, o1, a1, l1, r1, e1, e2.set6 hc _⟩
    · refine par_done hwl (fun hne b0 o0 a0 l0 r0 e0 => ?_) hne0
      rw [hg hne _ _ _ _ _ e0]
      have r3 := hrow3 hne
      have r4 := x4.at r3 (by simp [treeTyp, treeTyp0]) (fun _ _ k _ hk => absurd (Pt.body _ _ hk) (by unfold bodyTyp; decide))
      have r5 := x5.at r4 (by simp [treeTyp, treeTyp0]) (fun _ _ k _ hk => absurd (Pt.body _ _ hk) (by unfold bodyTyp; decide))
      exact hff.at r5 (by simp [treeTyp, treeTyp0]) (fun _ _ k _ hk => absurd hk.1 (by decide))
    · -- the conditions
      have iP : IsT W3 p := by
        have k2 : IsT W2 p := IsT.fr x2 (fun t k hk => absurd hk id) hwp hi.2.1.1 (fun _ _ _ h => h)
        exact IsT.fr x3 PN.pos hwp k2 (fun k hk ty hq => alp k (by rw [hPsl]; exact hq.2) hk)
      have hP5 : IsT W5 (whT F its (elems p) 0 (parR (elems l) S0.clear)) := IsT.fr x5 (fun t k hk => (Pt.body t k hk).pos) ((whT_sh (elems p) 0 _).ws hwP) i4 (fun k hk => by rw [(whT_sh (F := F) (its := its) (elems p) 0 _).ps] at hk; exact Pt.out u2.apart_ k (by rw [hPsp]; exact hk))
      have hP6 : IsT (W5.setCell ⟨b, 6, none⟩ (.int .i64 (rsT F its q (whR F its (elems p) 0 (parR (elems l) S0.clear))).vars.length)) (whT F its (elems p) 0 (parR (elems l) S0.clear)) := IsT.fr hff hffp ((whT_sh (elems p) 0 _).ws hwP) hP5 (fun k hk ty hq => by
        rw [(whT_sh (F := F) (its := its) (elems p) 0 _).ps, ← hPsp] at hk
        rw [hq.2] at hk
        exact u1.own_r a.npos (by rw [hpo]; simp) (ps_left hk))
      have xx : Fr H (fun ty k => bodyTyp ty ∧ (k ∈ ps p ∨ k ∈ ps q)) W3 W5 := (x4.mono fun t k hk => ⟨hk.1, .inl (by rw [hPsp]; exact hk.2)⟩).trans (x5.mono fun t k hk => ⟨hk.1, .inr hk.2⟩)
      -- the list's own block
      rcases hwp.lst (.inr (.inr (.inl rfl))) with rfl | ⟨b0, o0, a0, l0, rfl, ht0, hl0⟩
      · trivial
      · have ho := iP.2.2
        have hne : l0 ≠ .nil := (own_tag ho (n := 20) ht0).1
        have hpo0 : po a0 = [] := by unfold po; rw [ht0]; rfl
        have o5 : Own W5 b0 a0 l0 .nil := OwnN.fr xx (fun t k hk => hk.1.pos) ho (fun k hk => by rw [hpo0] at hk; cases hk) (fun e => ⟨hwp.list e hne, fun k _ hk => absurd hk.1 (by unfold bodyTyp; decide)⟩)
        have o6 : Own (W5.setCell ⟨b, 6, none⟩ (.int .i64 (rsT F its q (whR F its (elems (BT.node b0 o0 a0 l0 .nil)) 0 (parR (elems l) S0.clear))).vars.length)) b0 a0 l0 .nil := OwnN.fr hff hffp o5 (fun k hk => by rw [hpo0] at hk; cases hk) (fun e => ⟨hwp.list e hne, fun k _ hk => absurd hk.1 (by decide)⟩)
        exact ⟨hP6, trivial, own_sh o6 (whT_sh _ _ _) (Sh.refl _)⟩
    · refine IsT.fr hff hffp ((reT_sh F its q _).ws hwq) i5 (fun k hk ty hq => ?_)
      rw [(reT_sh F its q _).ps, hq.2] at hk
      exact u1.own_r a.npos (by rw [hpo]; simp) (ps_right hk)
    · unfold Own; rw [hz]; trivial
    · unfold Own
      dsimp only
      rw [ht]
      refine ⟨_, heap_set (o := 6) _ hc, ⟨(Array.getElem?_setIfInBounds_ne (by omega)).trans hn.1, (Array.getElem?_setIfInBounds_ne (by omega)).trans hn.2.1, (Array.getElem?_setIfInBounds_ne (by omega)).trans hn.2.2⟩, ?_, x, y, z, _, _, rfl, ?_, ?_, ?_⟩
      · rw [withL_val (.inr (.inr (.inr (.inl rfl)))) hwl (parT_shape _ _).1, Array.getElem?_setIfInBounds_ne (by omega)]; exact c3
      · rw [(withL_sh (.inr (.inr (.inl rfl))) hwp (whT_sh _ _ _)).val, Array.getElem?_setIfInBounds_ne (by omega)]; exact c4
      · rw [(reT_sh F its q _).val, Array.getElem?_setIfInBounds_ne (by omega)]; exact c5
      · rw [Array.getElem?_setIfInBounds_self_of_lt (Array.getElem?_eq_some_iff.1 c6).1]
    · have y3 : Fr H (PI (.node b o a l (.node x y z p q))) w W3 := (x2.mono F0.to).trans (x3.mono fun t k hk => ⟨PN.pos _ _ hk, ps_left (by rw [hPsl]; exact hk.2)⟩)
      have y5 := (y3.trans (x4.mono fun t k hk => ⟨(Pt.body _ _ hk).pos, ps_right (ps_left (by rw [hPsp]; exact hk.2))⟩)).trans (x5.mono fun t k hk => ⟨(Pt.body _ _ hk).pos, ps_right (ps_right hk.2)⟩)
      exact y5.trans hfw
  -- stepping stones
  have STN : Hid (∀ (S : Rs) (W2 W3 : World), Fr H F0 w W2 → Fr H (PN (elems l)) W2 W3 → RsW H pb rb fb vb pc F S W3 → NsW H pb rb fb vb pc F its S W3 ∧ FnW W3 b a l p q ∧ IsT W3 p ∧ IsT W3 q) := by
    intro S W2 W3 x2 x3 h3
    refine ⟨⟨h3, (h.it.fr x2 (fun _ _ h => absurd h id)).fr x3 PN.inT, h.fo⟩, (hfn.fr (x2.mono (F0.to (P := PN (elems l)))) PN.inT).fr x3 PN.inT, ?_, ?_⟩
    · have k2 : IsT W2 p := IsT.fr x2 (fun t k hk => absurd hk id) hwp hi.2.1.1 (fun _ _ _ h => h)
      exact IsT.fr x3 PN.pos hwp k2 (fun k hk ty hq => alp k (by rw [hPsl]; exact hq.2) hk)
    · have k2 : IsT W2 q := IsT.fr x2 (fun t k hk => absurd hk id) hwq hi.2.1.2.1 (fun _ _ _ h => h)
      exact IsT.fr x3 PN.pos hwq k2 (fun k hk ty hq => alq k (by rw [hPsl]; exact hq.2) hk)
  have STM : Hid (∀ (S : Rs) (W3 W4 : World), NsW H pb rb fb vb pc F its S W3 → FnW W3 b a l p q → IsT W3 q → ∀ S', Fr H (Pt (elems p)) W3 W4 → RsW H pb rb fb vb pc F S' W4 → NsW H pb rb fb vb pc F its S' W4 ∧ FnW W4 b a l p q ∧ IsT W4 q) := by
    intro S W3 W4 n3 f3 i3 S' x4 h4
    refine ⟨n3.fr h4 x4 Pt.body, f3.fr x4 (fun t p h => (Pt.body t p h).inT), ?_⟩
    exact IsT.fr x4 (fun t k hk => (Pt.body t k hk).pos) hwq i3 (fun k hk ty hq => u2.apart k (by rw [hPsp]; exact hq.2) hk)
  have HWL : Hid (Ws 16 (elems l)) := hwL
  have HWP : Hid (Ws 15 (elems p)) := hwP
  have HWp : Hid (Ws 5 p) := hwp
  have HNDP : Hid ((ps (elems p)).Nodup) := hndP
  have HFR : Hid (Fresh H p) := hF.2.1.1
  have HNDp : Hid ((ps p).Nodup) := u2.left
  have HLETS : Hid (20000 + lets p + lets q ≤ 1000000) := hlets
  have HPN : Hid (∀ S, (whR F its (elems p) 0 S).vars.length ≤ S.vars.length + lets p) := fun S => by
    have := whR_vars (F := F) (its := its) (elems p) 0 S
    rwa [lets_elems (.inr (.inr (.inl rfl))) hwp] at this
  have HFN : Hid (FnW w b a l p q) := hfn
  have HN : Hid (NsW H pb rb fb vb pc F its s w) := h
  have hlv1 : lenV l = lenL (elems l) := lenV_elems l
  have hlv2 : lenV p = lenL (elems p) := lenV_elems p
  have HLV1 : Hid _ := hlv1
  have HLV2 : Hid _ := hlv2
  have hrs := h.rs
  clear hpar hwl hwp hwq hF hnd hlets hi u1 u2 hpo alp alq hPsl hPsp hwL hwP hndP hfn hGq hGe hrow0 hne0 h hlv1 hlv2 ht hz
  by_cases hk : 8 ≤ a.which
  · have HS0 : Hid (s.few a = s.fail 5 a.npos) := if_pos hk
    generalize hS : s.fail 5 a.npos = S0 at HS0
    go_enter Tryz.func128, Tryz.ntmps128
    go_wp2_with fail
    refine (nfail_any 5 a.npos w hrs).mono ?_
    rintro e W1 ⟨rfl, h1, x1⟩
    rw [hS] at h1
    clear hS
    obtain ⟨W2, hclr, hmp, hmt⟩ := h1.vars.clear
    have h2 : RsW H pb rb fb vb pc F S0.clear W2 := h1.turned hmp hmt
    have x2 : Fr H F0 w W2 := x1.turned h1.vge hmt
    have c2 : W1.cell? ⟨rb, 2, none⟩ = some (.map (some vb)) := h1.cell 2
    obtain ⟨_, f2, _, _⟩ := STN.out S0.clear W2 W2 x2 (Fr.refl _ _ _) h2
    obtain ⟨_, _, m3, _, _, _, _⟩ := f2.cells
    rw [hvl] at m3
    have L0 : ∃ g, (elems l ≠ .nil → ao = some ⟨g, 0, none⟩ ∧ H ≤ g ∧ ∀ b o a l' r, l = .node b o a l' r → b = g) ∧ LpP H pb rb fb vb pc F g (elems l) S0.clear W2 0 S0.clear W2 := by
      by_cases hne : elems l = .nil
      · exact ⟨0, fun h => absurd hne h, LpP.start h2 rfl HWL.out (fun h => absurd hne h)⟩
      · obtain ⟨g, e1, e2, ⟨cs, e3, e4⟩, e5⟩ := HROW.out hne
        exact ⟨g, fun _ => ⟨e1, e2, e5⟩, LpP.start h2 rfl HWL.out (fun _ => ⟨cs, x2.keep0 (by simp [treeTyp, treeTyp0]) e3, e4⟩)⟩
    obtain ⟨g, hg, L0⟩ := L0
    have HG : Hid _ := hg
    have HX2 : Hid (Fr H F0 w W2) := x2
    clear hg h1 x1 hmp hmt f2 x2 HFN
    go_wp2_with fail
    go_loopg [29] (lenV l) (fun m v wr => ∃ (i : Nat) (si : Rs), v = .int .i64 i ∧ i ≤ lenV l ∧ lenV l ≤ i + m ∧ LpP H pb rb fb vb pc F g (elems l) S0.clear W2 i si wr)
    case atStart => exact ⟨0, S0.clear, rfl, Nat.zero_le _, by omega, L0⟩
    case round =>
      clear L0 hclr c2 h2 m1 m2 hrs m3
      obtain ⟨i, si, rfl, hle, hm, LP⟩ := hrel
      have HLP : Hid _ := LP
      obtain ⟨n3, f3, iP3, iQ3⟩ := STN.out si W2 wr HX2.out LP.fr LP.rs
      obtain ⟨_, _, m3, m4, m5, _, _⟩ := f3.cells
      rw [hvl] at m3
      by_cases hlt : i < lenV l
      · have hltI : (i : Int) < (lenV l : Int) := by omega
        obtain ⟨b2, o2, a2, e2, r2, hd, hd2⟩ := dropL_lt i (elems l) (by rw [← HLV1.out]; exact hlt)
        have hne : elems l ≠ .nil := by intro hx; rw [hx] at hd; cases i <;> cases hd
        obtain ⟨hao, hgH, _⟩ := HG.out hne
        have hnm := LP.name hgH HWL.out hd
        have hfew := LP.few
        have hwe : (nameOfT e2).size ≤ maxLen := by
          have hwd := ws_drop (.inr (.inr (.inr (.inl rfl)))) i _ HWL.out
          rw [hd] at hwd
          obtain ⟨_, hwe, _⟩ := ws_rest (.inr (.inr (.inr (.inl rfl)))) hwd
          cases e2 with
          | nil => exact absurd hwe (by unfold Ws nilOk; simp)
          | node b3 o3 a3 x3 y3 => have := hwe.parts.1.name; show a3.name.size ≤ maxLen; unfold maxLen; omega
        have hrs := LP.rs
        have HFR3 : Hid (FnW wr b a l p q) := f3
        have HSTEP : Hid _ := fun w2 w3 => HLP.out.step (w2 := w2) (w3 := w3) HWL.out hd hd2
        subst hao
        clear LP f3 n3 iP3 iQ3 hd hd2 hne m4 m5
        go_wp2_with fail
        refine (newVar_any wr 4 hrs hnm hwe).mono ?_
        rintro e W5 ⟨rfl, h5, x5⟩
        have hn5 := hnm.fr0 x5
        have f5 := HFR3.out.fr (x5.mono (F0.to (P := F0))) (fun _ _ h => absurd h id)
        obtain ⟨_, _, m3', _, _, _, _⟩ := f5.cells
        rw [hvl] at m3'
        have hv5 : (si.newVar (nameOfT e2) (nposOfT e2) 4).vars.length ≤ 1000000 := by rw [newVar_vars]; omega
        go_wp2_with fail
        refine (addVar_any W5 h5 hn5 hwe hv5).mono ?_
        rintro e W6 ⟨rfl, h6, x6, wr6⟩
        rw [newVar_vars] at wr6
        obtain ⟨m, rfl⟩ : ∃ m, gk = m + 1 := ⟨gk - 1, by omega⟩
        have fin : ∃ (i' : Nat) (si : Rs), Value.int .i64 ((i : Int) + 1) = .int .i64 i' ∧ i' ≤ lenV l ∧ lenV l ≤ i' + m ∧ LpP H pb rb fb vb pc F g (elems l) S0.clear W2 i' si W6 :=
          ⟨i + 1, _, by simp, by omega, by omega, HSTEP.out W5 W6 x5 h6 x6 wr6⟩
        clear HSTEP HLP h5 x5 h6 x6 wr6 hn5 f5 HFR3 hnm
        go_wp2
        go_roundg m
        case rel => exact fin
        case measure => omega
      · have hltI : ¬ (i : Int) < (lenV l : Int) := by omega
        have hi2 : i = lenL (elems l) := by rw [← HLV1.out]; omega
        have hfew2 := LP.few
        obtain ⟨hsi, hrow⟩ : si = parR (elems l) S0.clear ∧ (elems l ≠ .nil → At wr g 100 fun cs => rowOk cs 0 (parT (elems l) S0.clear)) := by
          have := LP
          rw [hi2] at this
          exact this.fin
        have hvb : si.vars.length ≤ 10000 := by omega
        rw [hvp] at m4
        have HROW3 : Hid _ := hrow
        have HX3 : Hid (Fr H (PN (elems l)) W2 wr) := LP.fr
        have hr3 := LP.rs
        have iPe : IsT wr (elems p) := by
          cases p with
          | nil => trivial
          | node => exact iP3.1
        have M0 : LpW H pb rb fb vb pc F its (elems p) si wr 0 si wr := LpW.start hr3 iPe
        have HSI : Hid (si = parR (elems l) S0.clear) := hsi
        have HN3 : Hid (NsW H pb rb fb vb pc F its si wr) := n3
        have HF3 : Hid (FnW wr b a l p q) := f3
        have HQ3 : Hid (IsT wr q) := iQ3
        have HP3 : Hid (IsT wr p) := iP3
        clear hrow hsi LP HLP n3 f3 iQ3 iP3 iPe hr3 m3 m5 hi2
        rename World => WP
        go_wp2_with fail
        go_loopg [54] (lenV p) (fun m v wk => ∃ (j : Nat) (sj : Rs), v = .int .i64 j ∧ j ≤ lenV p ∧ lenV p ≤ j + m ∧ LpW H pb rb fb vb pc F its (elems p) si WP j sj wk)
        case atStart => exact ⟨0, si, rfl, Nat.zero_le _, by omega, M0⟩
        case round =>
          clear M0 m4
          obtain ⟨j, sj, rfl, hle2, hm2, LW⟩ := hrel
          have HLW : Hid _ := LW
          obtain ⟨n4, f4, iQ4⟩ := STM.out si WP wr HN3.out HF3.out HQ3.out sj LW.fr LW.rs
          obtain ⟨_, _, _, m4, m5, m6, z6⟩ := f4.cells
          rw [hvq] at m5
          by_cases hlt2 : j < lenV p
          · have hltJ : (j : Int) < (lenV p : Int) := by omega
            obtain ⟨b2, o2, a2, e2, r2, hd, hd2⟩ := dropL_lt j (elems p) (by rw [← HLV2.out]; exact hlt2)
            have hwd := ws_drop (.inr (.inr (.inl rfl))) j _ HWP.out
            rw [hd] at hwd
            obtain ⟨h15, hwe, _⟩ := ws_rest (.inr (.inr (.inl rfl))) hwd
            obtain ⟨b3, o3, a3, xx, yy, rfl, h7, hx21, hy21⟩ := ws20 hwe
            obtain ⟨gg, rfl, hcell⟩ := lst_cell7 HWp.out HP3.out LW.fr Pt.body hvp hd ⟨b3, o3, a3, xx, yy, rfl, h7⟩
            replace hcell : wr.cell? ⟨gg, j, none⟩ = some (.pointer (some ⟨b3, 0, none⟩)) := hcell
            have hrest := LW.rest
            have hndd := nd_drop j _ HNDP.out
            rw [hd] at hrest hndd
            have ue := uq_of (b := b3) (o := o3) (uq_of hndd).left
            have hfr3 : Fresh H (BT.node b3 o3 a3 xx yy) := by
              have h0 := fresh_drop j (elems p) (fresh_elems HFR.out)
              rw [hd] at h0
              exact h0.1
            obtain ⟨u, pp, hvx⟩ := hx21.val (.inr (.inr (.inr rfl)))
            obtain ⟨u2', pp2, hvy⟩ := hy21.val (.inr (.inr (.inr rfl)))
            have own2 : ∀ w', Own w' b3 a3 xx yy → w'.cell? ⟨b3, 2, none⟩ = some (valT xx) ∧ w'.cell? ⟨b3, 3, none⟩ = some (valT yy) ∧ w'.cell? ⟨b3, 1, none⟩ = some (.int .i64 a3.pos) := by
              intro w' ho
              obtain ⟨cs, hc, _, k1, k2, k3⟩ := own_tag ho (n := 7) h7
              exact ⟨by rw [cell_of_row _ _ _ _ _ _ hc]; exact k2, by rw [cell_of_row _ _ _ _ _ _ hc]; exact k3, by rw [cell_of_row _ _ _ _ _ _ hc]; exact k1⟩
            have q2 := (own2 wr hrest.1.2.2).1
            have hcall := HGe.out xx hfr3.1 ue.left (ws21 hx21) sj wr n4 hrest.1.1
            have HGY : Hid (GN 195 H pb rb fb vb pc F its valT yy) := HGe.out yy hfr3.2.1 ue.right (ws21 hy21)
            rw [hvx] at q2 hcall
            have HOW : Hid _ := own2
            have HSTEP : Hid _ := fun w2 w3 w4 => HLW.out.step (w2 := w2) (w3 := w3) (w4 := w4) HWP.out HNDP.out hd hd2
            have HKEEP : Hid (∀ W5, Fr H (Pt xx) wr W5 → Own W5 b3 a3 xx yy ∧ IsT W5 yy) := fun W5 x5 => by
              have := right_kept (H := H) (b := b3) (o := o3) (ws21 hy21) ue hrest.1 x5 (by omega)
              exact ⟨this.2, this.1⟩
            have HKEEP2 : Hid (∀ W5 W6, Fr H F0 W5 W6 → Own W5 b3 a3 xx yy → IsT W5 yy → Own W6 b3 a3 xx yy ∧ IsT W6 yy) := fun W5 W6 x6 k1 k2 =>
              ⟨own_fr k1 x6 F0.body (fun p hp ty hq => hq) (by omega), IsT.fr x6 (fun t p hp => absurd hp id) (ws21 hy21) k2 (fun _ _ _ h => h)⟩
            have HN4 : Hid (NsW H pb rb fb vb pc F its sj wr) := n4
            clear LW f4 n4 iQ4 hd hd2 hwd hwe hx21 hy21 hrest hndd ue hfr3 own2 m4 m5 m6 z6 h7 h15
            go_wp2_with fail
            refine hcall.mono ?_
            rintro e W5 ⟨rfl, h5, i5, x5⟩
            obtain ⟨o5, j5⟩ := HKEEP.out W5 x5
            have q1 := (HOW.out W5 o5).2.2
            have q3 := (HOW.out W5 o5).2.1
            have n5 := HN4.out.fr h5 x5 Pt.body
            obtain ⟨m, rfl⟩ : ∃ m, gk = m + 1 := ⟨gk - 1, by omega⟩
            by_cases h4j : (4 : Int) ≤ (j : Int)
            · have hfi : Hid ((rsT F its xx sj).fifth j a3.pos = (rsT F its xx sj).fail 5 a3.pos) := if_pos (by omega)
              go_wp2_with fail
              refine (nfail_any 5 a3.pos W5 h5).mono ?_
              rintro e W6 ⟨rfl, h6, x6⟩
              rw [← hfi.out] at h6
              obtain ⟨o6, j6⟩ := HKEEP2.out W5 W6 x6 o5 j5
              have q4 := (HOW.out W6 o6).2.1
              have hcall2 := HGY.out _ W6 (n5.fr h6 x6 F0.body) j6
              rw [hvy] at q4 hcall2
              clear q1 q3 o5 j5 o6 j6 n5
              go_wp2_with fail
              refine hcall2.mono ?_
              rintro e W7 ⟨rfl, h7, i7, x7⟩
              have fin : ∃ (j' : Nat) (sj : Rs), Value.int .i64 ((j : Int) + 1) = .int .i64 j' ∧ j' ≤ lenV p ∧ lenV p ≤ j' + m ∧ LpW H pb rb fb vb pc F its (elems p) si WP j' sj W7 :=
                ⟨j + 1, _, by simp, by omega, by omega, HSTEP.out W5 W6 W7 i5 x5 x6 h7 i7 x7⟩
              clear HSTEP HLW h5 x5 i5 h6 x6 h7 i7 x7 HKEEP HKEEP2 HN4
              go_wp2
              go_roundg m
              case rel => exact fin
              case measure => omega
            · have hfi : (rsT F its xx sj).fifth j a3.pos = rsT F its xx sj := if_neg (by omega)
              have h5' := h5
              rw [← hfi] at h5'
              have HFI : Hid _ := hfi
              have hcall2 := HGY.out _ W5 (n5.fr h5' (Fr.refl H F0 W5) F0.body) j5
              rw [hvy] at q3 hcall2
              clear o5 j5 n5 hfi q1
              go_wp2_with fail
              refine hcall2.mono ?_
              rintro e W7 ⟨rfl, h7, i7, x7⟩
              have fin : ∃ (j' : Nat) (sj : Rs), Value.int .i64 ((j : Int) + 1) = .int .i64 j' ∧ j' ≤ lenV p ∧ lenV p ≤ j' + m ∧ LpW H pb rb fb vb pc F its (elems p) si WP j' sj W7 :=
                ⟨j + 1, _, by simp, by omega, by omega, HSTEP.out W5 W5 W7 i5 x5 (Fr.refl H F0 W5) h7 i7 x7⟩
              clear HSTEP HLW h5 x5 i5 h7 i7 x7 HKEEP HKEEP2 HN4 h5'
              go_wp2
              go_roundg m
              case rel => exact fin
              case measure => omega
          · have hltJ : ¬ (j : Int) < (lenV p : Int) := by omega
            have hj2 : j = lenL (elems p) := by rw [← HLV2.out]; omega
            obtain ⟨hsj, iW⟩ : sj = whR F its (elems p) 0 si ∧ IsT wr (whT F its (elems p) 0 si) := by
              have := LW
              rw [hj2] at this
              exact this.fin
            have hvb2 : sj.vars.length + lets q ≤ 1000000 := by
              have k1 := HPN.out si
              have k2 := HLETS.out
              rw [hsj]
              omega
            have hcall := HGq.out sj wr n4 iQ4 hvb2
            rw [hvq] at hcall
            have HXW : Hid (Fr H (Pt (elems p)) WP wr) := LW.fr
            have HF4 : Hid (FnW wr b a l p q) := f4
            have HIW : Hid (IsT wr (whT F its (elems p) 0 si)) := iW
            have HSJ : Hid (sj = whR F its (elems p) 0 si) := hsj
            clear LW HLW n4 f4 iQ4 hvb2 hj2 iW hsj m4 m6 z6
            go_wp2_with fail
            refine hcall.mono ?_
            rintro e W5 ⟨rfl, h5, i5, x5⟩
            have f5 := HF4.out.fr x5 (fun t p h => (Pt.body t p h).inT)
            obtain ⟨_, _, _, _, _, m6, z6⟩ := f5.cells
            have c5 : W5.cell? ⟨rb, 2, none⟩ = some (.map (some vb)) := h5.cell 2
            have hend : PostF H pb rb fb vb pc F its (.node b o a l (.node x y z p q)) (fnT F its (.node b o a l (.node x y z p q)) s) (fnR F its (.node b o a l (.node x y z p q)) s) w (.returned (.tuple #[])) (W5.setCell ⟨b, 6, none⟩ (.int .i64 (rsT F its q sj).vars.length)) := by
              have e1 := HSJ.out
              have e2 := HSI.out
              rw [e2] at e1
              have i4 := HIW.out
              rw [e2] at i4
              subst e1
              exact FIN.out g S0 W2 WP wr W5 HS0.out (fun hne => (HG.out hne).2.2) HX2.out HX3.out HROW3.out HXW.out i4 x5 i5 h5
            clear f5 FIN STN STM i5 x5
            go_wp2_with (at_len; refine wpList_len_mp rfl _ rfl vb _ _ rfl h5.vars ?_)
            go_end0
            exact hend
  · obtain ⟨S0, hS⟩ : ∃ S0, s.few a = S0 := ⟨_, rfl⟩
    have HS0 : Hid (s.few a = S0) := hS
    have h1 : RsW H pb rb fb vb pc F S0 w := by rw [← hS, show s.few a = s from if_neg hk]; exact hrs
    have x1 : Fr H F0 w w := Fr.refl _ _ _
    clear hS
    go_enter Tryz.func128, Tryz.ntmps128
    obtain ⟨W2, hclr, hmp, hmt⟩ := h1.vars.clear
    have h2 : RsW H pb rb fb vb pc F S0.clear W2 := h1.turned hmp hmt
    have x2 : Fr H F0 w W2 := x1.turned h1.vge hmt
    have c2 : w.cell? ⟨rb, 2, none⟩ = some (.map (some vb)) := h1.cell 2
    obtain ⟨_, f2, _, _⟩ := STN.out S0.clear W2 W2 x2 (Fr.refl _ _ _) h2
    obtain ⟨_, _, m3, _, _, _, _⟩ := f2.cells
    rw [hvl] at m3
    have L0 : ∃ g, (elems l ≠ .nil → ao = some ⟨g, 0, none⟩ ∧ H ≤ g ∧ ∀ b o a l' r, l = .node b o a l' r → b = g) ∧ LpP H pb rb fb vb pc F g (elems l) S0.clear W2 0 S0.clear W2 := by
      by_cases hne : elems l = .nil
      · exact ⟨0, fun h => absurd hne h, LpP.start h2 rfl HWL.out (fun h => absurd hne h)⟩
      · obtain ⟨g, e1, e2, ⟨cs, e3, e4⟩, e5⟩ := HROW.out hne
        exact ⟨g, fun _ => ⟨e1, e2, e5⟩, LpP.start h2 rfl HWL.out (fun _ => ⟨cs, x2.keep0 (by simp [treeTyp, treeTyp0]) e3, e4⟩)⟩
    obtain ⟨g, hg, L0⟩ := L0
    have HG : Hid _ := hg
    have HX2 : Hid (Fr H F0 w W2) := x2
    clear hg h1 x1 hmp hmt f2 x2 HFN
    go_wp2_with fail
    go_loopg [29] (lenV l) (fun m v wr => ∃ (i : Nat) (si : Rs), v = .int .i64 i ∧ i ≤ lenV l ∧ lenV l ≤ i + m ∧ LpP H pb rb fb vb pc F g (elems l) S0.clear W2 i si wr)
    case atStart => exact ⟨0, S0.clear, rfl, Nat.zero_le _, by omega, L0⟩
    case round =>
      clear L0 hclr c2 h2 m1 m2 hrs m3
      obtain ⟨i, si, rfl, hle, hm, LP⟩ := hrel
      have HLP : Hid _ := LP
      obtain ⟨n3, f3, iP3, iQ3⟩ := STN.out si W2 wr HX2.out LP.fr LP.rs
      obtain ⟨_, _, m3, m4, m5, _, _⟩ := f3.cells
      rw [hvl] at m3
      by_cases hlt : i < lenV l
      · have hltI : (i : Int) < (lenV l : Int) := by omega
        obtain ⟨b2, o2, a2, e2, r2, hd, hd2⟩ := dropL_lt i (elems l) (by rw [← HLV1.out]; exact hlt)
        have hne : elems l ≠ .nil := by intro hx; rw [hx] at hd; cases i <;> cases hd
        obtain ⟨hao, hgH, _⟩ := HG.out hne
        have hnm := LP.name hgH HWL.out hd
        have hfew := LP.few
        have hwe : (nameOfT e2).size ≤ maxLen := by
          have hwd := ws_drop (.inr (.inr (.inr (.inl rfl)))) i _ HWL.out
          rw [hd] at hwd
          obtain ⟨_, hwe, _⟩ := ws_rest (.inr (.inr (.inr (.inl rfl)))) hwd
          cases e2 with
          | nil => exact absurd hwe (by unfold Ws nilOk; simp)
          | node b3 o3 a3 x3 y3 => have := hwe.parts.1.name; show a3.name.size ≤ maxLen; unfold maxLen; omega
        have hrs := LP.rs
        have HFR3 : Hid (FnW wr b a l p q) := f3
        have HSTEP : Hid _ := fun w2 w3 => HLP.out.step (w2 := w2) (w3 := w3) HWL.out hd hd2
        subst hao
        clear LP f3 n3 iP3 iQ3 hd hd2 hne m4 m5
        go_wp2_with fail
        refine (newVar_any wr 4 hrs hnm hwe).mono ?_
        rintro e W5 ⟨rfl, h5, x5⟩
        have hn5 := hnm.fr0 x5
        have f5 := HFR3.out.fr (x5.mono (F0.to (P := F0))) (fun _ _ h => absurd h id)
        obtain ⟨_, _, m3', _, _, _, _⟩ := f5.cells
        rw [hvl] at m3'
        have hv5 : (si.newVar (nameOfT e2) (nposOfT e2) 4).vars.length ≤ 1000000 := by rw [newVar_vars]; omega
        go_wp2_with fail
        refine (addVar_any W5 h5 hn5 hwe hv5).mono ?_
        rintro e W6 ⟨rfl, h6, x6, wr6⟩
        rw [newVar_vars] at wr6
        obtain ⟨m, rfl⟩ : ∃ m, gk = m + 1 := ⟨gk - 1, by omega⟩
        have fin : ∃ (i' : Nat) (si : Rs), Value.int .i64 ((i : Int) + 1) = .int .i64 i' ∧ i' ≤ lenV l ∧ lenV l ≤ i' + m ∧ LpP H pb rb fb vb pc F g (elems l) S0.clear W2 i' si W6 :=
          ⟨i + 1, _, by simp, by omega, by omega, HSTEP.out W5 W6 x5 h6 x6 wr6⟩
        clear HSTEP HLP h5 x5 h6 x6 wr6 hn5 f5 HFR3 hnm
        go_wp2
        go_roundg m
        case rel => exact fin
        case measure => omega
      · have hltI : ¬ (i : Int) < (lenV l : Int) := by omega
        have hi2 : i = lenL (elems l) := by rw [← HLV1.out]; omega
        have hfew2 := LP.few
        obtain ⟨hsi, hrow⟩ : si = parR (elems l) S0.clear ∧ (elems l ≠ .nil → At wr g 100 fun cs => rowOk cs 0 (parT (elems l) S0.clear)) := by
          have := LP
          rw [hi2] at this
          exact this.fin
        have hvb : si.vars.length ≤ 10000 := by omega
        rw [hvp] at m4
        have HROW3 : Hid _ := hrow
        have HX3 : Hid (Fr H (PN (elems l)) W2 wr) := LP.fr
        have hr3 := LP.rs
        have iPe : IsT wr (elems p) := by
          cases p with
          | nil => trivial
          | node => exact iP3.1
        have M0 : LpW H pb rb fb vb pc F its (elems p) si wr 0 si wr := LpW.start hr3 iPe
        have HSI : Hid (si = parR (elems l) S0.clear) := hsi
        have HN3 : Hid (NsW H pb rb fb vb pc F its si wr) := n3
        have HF3 : Hid (FnW wr b a l p q) := f3
        have HQ3 : Hid (IsT wr q) := iQ3
        have HP3 : Hid (IsT wr p) := iP3
        clear hrow hsi LP HLP n3 f3 iQ3 iP3 iPe hr3 m3 m5 hi2
        rename World => WP
        go_wp2_with fail
        go_loopg [54] (lenV p) (fun m v wk => ∃ (j : Nat) (sj : Rs), v = .int .i64 j ∧ j ≤ lenV p ∧ lenV p ≤ j + m ∧ LpW H pb rb fb vb pc F its (elems p) si WP j sj wk)
        case atStart => exact ⟨0, si, rfl, Nat.zero_le _, by omega, M0⟩
        case round =>
          clear M0 m4
          obtain ⟨j, sj, rfl, hle2, hm2, LW⟩ := hrel
          have HLW : Hid _ := LW
          obtain ⟨n4, f4, iQ4⟩ := STM.out si WP wr HN3.out HF3.out HQ3.out sj LW.fr LW.rs
          obtain ⟨_, _, _, m4, m5, m6, z6⟩ := f4.cells
          rw [hvq] at m5
          by_cases hlt2 : j < lenV p
          · have hltJ : (j : Int) < (lenV p : Int) := by omega
            obtain ⟨b2, o2, a2, e2, r2, hd, hd2⟩ := dropL_lt j (elems p) (by rw [← HLV2.out]; exact hlt2)
            have hwd := ws_drop (.inr (.inr (.inl rfl))) j _ HWP.out
            rw [hd] at hwd
            obtain ⟨h15, hwe, _⟩ := ws_rest (.inr (.inr (.inl rfl))) hwd
            obtain ⟨b3, o3, a3, xx, yy, rfl, h7, hx21, hy21⟩ := ws20 hwe
            obtain ⟨gg, rfl, hcell⟩ := lst_cell7 HWp.out HP3.out LW.fr Pt.body hvp hd ⟨b3, o3, a3, xx, yy, rfl, h7⟩
            replace hcell : wr.cell? ⟨gg, j, none⟩ = some (.pointer (some ⟨b3, 0, none⟩)) := hcell
            have hrest := LW.rest
            have hndd := nd_drop j _ HNDP.out
            rw [hd] at hrest hndd
            have ue := uq_of (b := b3) (o := o3) (uq_of hndd).left
            have hfr3 : Fresh H (BT.node b3 o3 a3 xx yy) := by
              have h0 := fresh_drop j (elems p) (fresh_elems HFR.out)
              rw [hd] at h0
              exact h0.1
            obtain ⟨u, pp, hvx⟩ := hx21.val (.inr (.inr (.inr rfl)))
            obtain ⟨u2', pp2, hvy⟩ := hy21.val (.inr (.inr (.inr rfl)))
            have own2 : ∀ w', Own w' b3 a3 xx yy → w'.cell? ⟨b3, 2, none⟩ = some (valT xx) ∧ w'.cell? ⟨b3, 3, none⟩ = some (valT yy) ∧ w'.cell? ⟨b3, 1, none⟩ = some (.int .i64 a3.pos) := by
              intro w' ho
              obtain ⟨cs, hc, _, k1, k2, k3⟩ := own_tag ho (n := 7) h7
              exact ⟨by rw [cell_of_row _ _ _ _ _ _ hc]; exact k2, by rw [cell_of_row _ _ _ _ _ _ hc]; exact k3, by rw [cell_of_row _ _ _ _ _ _ hc]; exact k1⟩
            have q2 := (own2 wr hrest.1.2.2).1
            have hcall := HGe.out xx hfr3.1 ue.left (ws21 hx21) sj wr n4 hrest.1.1
            have HGY : Hid (GN 195 H pb rb fb vb pc F its valT yy) := HGe.out yy hfr3.2.1 ue.right (ws21 hy21)
            rw [hvx] at q2 hcall
            have HOW : Hid _ := own2
            have HSTEP : Hid _ := fun w2 w3 w4 => HLW.out.step (w2 := w2) (w3 := w3) (w4 := w4) HWP.out HNDP.out hd hd2
            have HKEEP : Hid (∀ W5, Fr H (Pt xx) wr W5 → Own W5 b3 a3 xx yy ∧ IsT W5 yy) := fun W5 x5 => by
              have := right_kept (H := H) (b := b3) (o := o3) (ws21 hy21) ue hrest.1 x5 (by omega)
              exact ⟨this.2, this.1⟩
            have HKEEP2 : Hid (∀ W5 W6, Fr H F0 W5 W6 → Own W5 b3 a3 xx yy → IsT W5 yy → Own W6 b3 a3 xx yy ∧ IsT W6 yy) := fun W5 W6 x6 k1 k2 =>
              ⟨own_fr k1 x6 F0.body (fun p hp ty hq => hq) (by omega), IsT.fr x6 (fun t p hp => absurd hp id) (ws21 hy21) k2 (fun _ _ _ h => h)⟩
            have HN4 : Hid (NsW H pb rb fb vb pc F its sj wr) := n4
            clear LW f4 n4 iQ4 hd hd2 hwd hwe hx21 hy21 hrest hndd ue hfr3 own2 m4 m5 m6 z6 h7 h15
            go_wp2_with fail
            refine hcall.mono ?_
            rintro e W5 ⟨rfl, h5, i5, x5⟩
            obtain ⟨o5, j5⟩ := HKEEP.out W5 x5
            have q1 := (HOW.out W5 o5).2.2
            have q3 := (HOW.out W5 o5).2.1
            have n5 := HN4.out.fr h5 x5 Pt.body
            obtain ⟨m, rfl⟩ : ∃ m, gk = m + 1 := ⟨gk - 1, by omega⟩
            by_cases h4j : (4 : Int) ≤ (j : Int)
            · have hfi : Hid ((rsT F its xx sj).fifth j a3.pos = (rsT F its xx sj).fail 5 a3.pos) := if_pos (by omega)
              go_wp2_with fail
              refine (nfail_any 5 a3.pos W5 h5).mono ?_
              rintro e W6 ⟨rfl, h6, x6⟩
              rw [← hfi.out] at h6
              obtain ⟨o6, j6⟩ := HKEEP2.out W5 W6 x6 o5 j5
              have q4 := (HOW.out W6 o6).2.1
              have hcall2 := HGY.out _ W6 (n5.fr h6 x6 F0.body) j6
              rw [hvy] at q4 hcall2
              clear q1 q3 o5 j5 o6 j6 n5
              go_wp2_with fail
              refine hcall2.mono ?_
              rintro e W7 ⟨rfl, h7, i7, x7⟩
              have fin : ∃ (j' : Nat) (sj : Rs), Value.int .i64 ((j : Int) + 1) = .int .i64 j' ∧ j' ≤ lenV p ∧ lenV p ≤ j' + m ∧ LpW H pb rb fb vb pc F its (elems p) si WP j' sj W7 :=
                ⟨j + 1, _, by simp, by omega, by omega, HSTEP.out W5 W6 W7 i5 x5 x6 h7 i7 x7⟩
              clear HSTEP HLW h5 x5 i5 h6 x6 h7 i7 x7 HKEEP HKEEP2 HN4
              go_wp2
              go_roundg m
              case rel => exact fin
              case measure => omega
            · have hfi : (rsT F its xx sj).fifth j a3.pos = rsT F its xx sj := if_neg (by omega)
              have h5' := h5
              rw [← hfi] at h5'
              have HFI : Hid _ := hfi
              have hcall2 := HGY.out _ W5 (n5.fr h5' (Fr.refl H F0 W5) F0.body) j5
              rw [hvy] at q3 hcall2
              clear o5 j5 n5 hfi q1
              go_wp2_with fail
              refine hcall2.mono ?_
              rintro e W7 ⟨rfl, h7, i7, x7⟩
              have fin : ∃ (j' : Nat) (sj : Rs), Value.int .i64 ((j : Int) + 1) = .int .i64 j' ∧ j' ≤ lenV p ∧ lenV p ≤ j' + m ∧ LpW H pb rb fb vb pc F its (elems p) si WP j' sj W7 :=
                ⟨j + 1, _, by simp, by omega, by omega, HSTEP.out W5 W5 W7 i5 x5 (Fr.refl H F0 W5) h7 i7 x7⟩
              clear HSTEP HLW h5 x5 i5 h7 i7 x7 HKEEP HKEEP2 HN4 h5'
              go_wp2
              go_roundg m
              case rel => exact fin
              case measure => omega
          · have hltJ : ¬ (j : Int) < (lenV p : Int) := by omega
            have hj2 : j = lenL (elems p) := by rw [← HLV2.out]; omega
            obtain ⟨hsj, iW⟩ : sj = whR F its (elems p) 0 si ∧ IsT wr (whT F its (elems p) 0 si) := by
              have := LW
              rw [hj2] at this
              exact this.fin
            have hvb2 : sj.vars.length + lets q ≤ 1000000 := by
              have k1 := HPN.out si
              have k2 := HLETS.out
              rw [hsj]
              omega
            have hcall := HGq.out sj wr n4 iQ4 hvb2
            rw [hvq] at hcall
            have HXW : Hid (Fr H (Pt (elems p)) WP wr) := LW.fr
            have HF4 : Hid (FnW wr b a l p q) := f4
            have HIW : Hid (IsT wr (whT F its (elems p) 0 si)) := iW
            have HSJ : Hid (sj = whR F its (elems p) 0 si) := hsj
            clear LW HLW n4 f4 iQ4 hvb2 hj2 iW hsj m4 m6 z6
            go_wp2_with fail
            refine hcall.mono ?_
            rintro e W5 ⟨rfl, h5, i5, x5⟩
            have f5 := HF4.out.fr x5 (fun t p h => (Pt.body t p h).inT)
            obtain ⟨_, _, _, _, _, m6, z6⟩ := f5.cells
            have c5 : W5.cell? ⟨rb, 2, none⟩ = some (.map (some vb)) := h5.cell 2
            have hend : PostF H pb rb fb vb pc F its (.node b o a l (.node x y z p q)) (fnT F its (.node b o a l (.node x y z p q)) s) (fnR F its (.node b o a l (.node x y z p q)) s) w (.returned (.tuple #[])) (W5.setCell ⟨b, 6, none⟩ (.int .i64 (rsT F its q sj).vars.length)) := by
              have e1 := HSJ.out
              have e2 := HSI.out
              rw [e2] at e1
              have i4 := HIW.out
              rw [e2] at i4
              subst e1
              exact FIN.out g S0 W2 WP wr W5 HS0.out (fun hne => (HG.out hne).2.2) HX2.out HX3.out HROW3.out HXW.out i4 x5 i5 h5
            clear f5 FIN STN STM i5 x5
            go_wp2_with (at_len; refine wpList_len_mp rfl _ rfl vb _ _ rfl h5.vars ?_)
            go_end0
            exact hend
end Go.Proofs.YtikffmloeifkpaaGreatDoor
