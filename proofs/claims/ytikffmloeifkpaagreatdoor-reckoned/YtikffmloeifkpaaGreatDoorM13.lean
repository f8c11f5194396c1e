/- The program's contracts, part 13: each says what a function of the program does, for every argument that its premises name. -/
import Derived.Test.YtikffmloeifkpaaGreatDoorM12
import Derived.Deep.Cut
/- Package names: a call. -/
namespace Go.Proofs.YtikffmloeifkpaaGreatDoor
open Go.RowKit Go.Lib Go.Deep Go.ChangeMaps Go.MapKept

def dropL : Nat → Tr → Tr
  | 0, t => t
  | _ + 1, .nil => .nil
  | n + 1, .node _ _ _ _ r => dropL n r
theorem rowOk_drop {cs : Array Value} : ∀ (i o : Nat) (l : Tr), rowOk cs o l → rowOk cs (o + i) (dropL i l) := by
  intro i
  induction i with
  | zero => intro o l h; exact h
  | succ n ih =>
    intro o l h
    cases l with
    | nil => trivial
    | node b q a e r => rw [show o + (n + 1) = o + 1 + n by omega]; exact ih _ r h.2
theorem dropL_lt : ∀ (i : Nat) (l : Tr), i < lenL l → ∃ b o a e r, dropL i l = .node b o a e r ∧ dropL (i + 1) l = r := by
  intro i
  induction i with
  | zero =>
    intro l h
    cases l with
    | nil => exact absurd h (Nat.not_lt_zero _)
    | node b o a e r => exact ⟨b, o, a, e, r, rfl, rfl⟩
  | succ n ih =>
    intro l h
    cases l with
    | nil => exact absurd h (Nat.not_lt_zero _)
    | node b o a e r => exact ih r (by simp only [lenL] at h; omega)
theorem dropL_end : ∀ (l : Tr), dropL (lenL l) l = .nil := by
  intro l
  induction l with
  | nil => rfl
  | node b o a e r _ ih => exact ih
/-- All elements of a list, and what is behind each. -/
def AllG (Q : Tr → Prop) : Tr → Prop
  | .nil => True
  | .node _ _ a e r => a.tag = 15 ∧ Q e ∧ AllG Q r
theorem AllG.drop {Q : Tr → Prop} : ∀ (i : Nat) (l : Tr), AllG Q l → AllG Q (dropL i l) := by
  intro i
  induction i with
  | zero => intro l h; exact h
  | succ n ih =>
    intro l h
    cases l with
    | nil => trivial
    | node b o a e r => exact ih r h.2.2
theorem isT_drop {w : World} : ∀ (i : Nat) (l : Tr), IsT w l → IsT w (dropL i l) := by
  intro i
  induction i with
  | zero => intro l h; exact h
  | succ n ih =>
    intro l h
    cases l with
    | nil => trivial
    | node b o a e r => exact ih r h.2.1
theorem ws_rest {s b o : Nat} {a : Nd} {e r : Tr} (hs : s = 13 ∨ s = 14 ∨ s = 15 ∨ s = 16 ∨ s = 18) (h : Ws s (.node b o a e r)) : a.tag = 15 ∧ Ws (if s = 13 then 0 else if s = 14 then 2 else if s = 15 then 20 else if s = 16 then 22 else 7) e ∧ Ws s r := by
  obtain ⟨_, x, y, hsig, h1, h2⟩ := h.parts
  by_cases h15 : a.tag = 15
  · refine ⟨h15, ?_⟩
    rw [h15] at hsig
    rcases hs with rfl | rfl | rfl | rfl | rfl <;> cases hsig <;> exact ⟨h1, h2⟩
  · exfalso
    rcases hs with rfl | rfl | rfl | rfl | rfl <;> simp [sig, h15] at hsig
theorem ws_drop {s : Nat} (hs : s = 13 ∨ s = 14 ∨ s = 15 ∨ s = 16 ∨ s = 18) : ∀ (i : Nat) (l : Tr), Ws s l → Ws s (dropL i l) := by
  intro i
  induction i with
  | zero => intro l h; exact h
  | succ n ih =>
    intro l h
    cases l with
    | nil => exact h
    | node b o a e r => exact ih r (ws_rest hs h).2.2
theorem nd_drop : ∀ (i : Nat) (l : Tr), (ps l).Nodup → (ps (dropL i l)).Nodup := by
  intro i
  induction i with
  | zero => intro l h; exact h
  | succ n ih =>
    intro l h
    cases l with
    | nil => exact h
    | node b o a e r => exact ih r (uq_of h).right
theorem ps_drop : ∀ (i : Nat) (l : Tr) (p : Int), p ∈ ps (dropL i l) → p ∈ ps l := by
  intro i
  induction i with
  | zero => intro l p h; exact h
  | succ n ih =>
    intro l p h
    cases l with
    | nil => exact h
    | node b o a e r => exact ps_right (ih r p h)
/-- The elements of a list. -/
def elems : Tr → Tr
  | .nil => .nil
  | .node _ _ _ l _ => l


variable {H pb rb fb vb : Nat} {pc : Array Value} {F : Ents} {its : List Tr}
/-- A list that is one: of expressions (3), statements (4), conditions (5). -/
theorem Ws.lst {s : Nat} {t : Tr} (hs : s = 3 ∨ s = 4 ∨ s = 5 ∨ s = 6 ∨ s = 8) (h : Ws s t) : t = .nil ∨ ∃ b o a l, t = .node b o a l .nil ∧ a.tag = 20 ∧ Ws (10 + s) l := by
  cases t with
  | nil => exact .inl rfl
  | node b o a l r =>
    right
    obtain ⟨_, x, y, hsig, h1, h2⟩ := h.parts
    by_cases h20 : a.tag = 20
    · rw [h20] at hsig
      have e : x = 10 + s ∧ y = 99 := by rcases hs with rfl | rfl | rfl | rfl | rfl <;> cases hsig <;> exact ⟨rfl, rfl⟩
      obtain ⟨rfl, rfl⟩ := e
      obtain rfl := h2.nil_of
      exact ⟨b, o, a, l, rfl, h20, h1⟩
    · exfalso
      rcases hs with rfl | rfl | rfl | rfl | rfl <;> simp [sig, h20] at hsig
theorem Ws.elems {s : Nat} {t : Tr} (hs : s = 3 ∨ s = 4 ∨ s = 5 ∨ s = 6 ∨ s = 8) (h : Ws s t) : Ws (10 + s) (YtikffmloeifkpaaGreatDoor.elems t) := by
  rcases h.lst hs with rfl | ⟨b, o, a, l, rfl, _, h1⟩
  · unfold YtikffmloeifkpaaGreatDoor.elems Ws nilOk; omega
  · exact h1
theorem Ws.lstval {s : Nat} {t : Tr} (hs : s = 3 ∨ s = 4 ∨ s = 5 ∨ s = 6 ∨ s = 8) (h : Ws s t) : ∃ ao cp, valT t = .slice ao (lenV t) cp := by
  rcases h.lst hs with rfl | ⟨b, o, a, l, rfl, ht, _⟩
  · exact ⟨none, 0, rfl⟩
  · exact ⟨_, _, if_pos ht⟩
theorem lenV_elems (t : Tr) : lenV t = lenL (elems t) := by cases t <;> rfl
theorem Ws.lstrs {s : Nat} {t : Tr} (hs : s = 3 ∨ s = 4 ∨ s = 5 ∨ s = 6 ∨ s = 8) (h : Ws s t) (S : Rs) : rsT F its t S = rsT F its (YtikffmloeifkpaaGreatDoor.elems t) S := by
  rcases h.lst hs with rfl | ⟨b, o, a, l, rfl, ht, _⟩
  · rfl
  · rw [rs_nine (fun h => by omega)]
    have : rs1 F its a (lenV l) S = S := by unfold rs1; rw [if_neg (by omega), if_neg (by omega), if_neg (by omega), if_neg (by omega)]
    rw [this]; rfl
theorem ps_elems {s : Nat} {t : Tr} (hs : s = 3 ∨ s = 4 ∨ s = 5 ∨ s = 6 ∨ s = 8) (h : Ws s t) : ps t = ps (elems t) := by
  rcases h.lst hs with rfl | ⟨b, o, a, l, rfl, ht, _⟩
  · rfl
  · show (if a.tag = 6 then _ else if named a.tag then _ else _) = _
    rw [ht]
    show ps l ++ [] = ps l
    simp
/-- A list's own block, and the list gone through. -/
theorem lst_done {s : Nat} {t : Tr} {P : TypeId → Int → Prop} {w w' : World} {S : Rs} (hs : s = 3 ∨ s = 4 ∨ s = 5 ∨ s = 6 ∨ s = 8) (h : Ws s t) (hi : IsT w t) (hx : Fr H P w w') (hP : ∀ t p, P t p → bodyTyp t) (hd : IsT w' (reT F its (elems t) S)) : IsT w' (reT F its t S) := by
  rcases h.lst hs with rfl | ⟨b, o, a, l, rfl, ht, hl⟩
  · trivial
  · rw [re_nine (fun h => by omega)]
    have h1 : rs1 F its a (lenV l) S = S := by unfold rs1; rw [if_neg (by omega), if_neg (by omega), if_neg (by omega), if_neg (by omega)]
    have h2 : wh1 F its a (lenV l) S = a.which := by unfold wh1; rw [if_neg (by omega), if_neg (by omega), if_neg (by omega)]
    rw [h1, h2]
    have ho := hi.2.2
    have hne : l ≠ .nil := (own_tag ho (n := 20) ht).1
    have hpo : po a = [] := by unfold po; rw [ht]; rfl
    have o2 : Own w' b a l .nil := OwnN.fr hx (fun t p hp => (hP t p hp).pos) ho (fun p hp => by rw [hpo] at hp; cases hp) (fun e => ⟨h.list e hne, fun p _ hq => absurd (hP _ _ hq) (by unfold bodyTyp; decide)⟩)
    exact ⟨hd, trivial, own_sh o2 (reT_sh _ _ _ _) (Sh.refl _)⟩
/-- An element of a list, where it lies. -/
theorem lst_cell {s : Nat} {w : World} {t : Tr} (hs : s = 3 ∨ s = 4 ∨ s = 5 ∨ s = 6 ∨ s = 8) (h : Ws s t) {P : TypeId → Int → Prop} {w0 : World} (hi : IsT w0 t) (hx : Fr H P w0 w) (hP : ∀ t p, P t p → bodyTyp t) {ao : Option Addr} {n cp i : Nat} (hv : valT t = .slice ao n cp) {b o : Nat} {a : Nd} {e r : Tr} (hd : dropL i (elems t) = .node b o a e r) (hE : ∃ b o a l r, e = .node b o a l r ∧ a.tag ≠ 19 ∧ a.tag ≠ 7) :
    ∃ g, ao = some ⟨g, 0, none⟩ ∧ w.cell? ⟨g, i, none⟩ = some (valT e) := by
  rcases h.lst hs with rfl | ⟨b0, o0, a0, l0, rfl, ht, _⟩
  · cases i <;> cases hd
  · have hv2 : valT (.node b0 o0 a0 l0 .nil) = .slice (some ⟨b0, 0, none⟩) (lenL l0) o0 := if_pos ht
    rw [hv2] at hv
    simp only [Value.slice.injEq] at hv
    refine ⟨b0, hv.1.symm, ?_⟩
    have ho := hi.2.2
    have hne : l0 ≠ .nil := (own_tag ho (n := 20) ht).1
    have hpo : po a0 = [] := by unfold po; rw [ht]; rfl
    have o2 : Own w b0 a0 l0 .nil := OwnN.fr hx (fun t p hp => (hP t p hp).pos) ho (fun p hp => by rw [hpo] at hp; cases hp) (fun e => ⟨h.list e hne, fun p _ hq => absurd (hP _ _ hq) (by unfold bodyTyp; decide)⟩)
    obtain ⟨_, cs, hc, hr⟩ := own_tag o2 (n := 20) ht
    have h1 := rowOk_drop i 0 l0 hr
    replace hd : dropL i l0 = .node b o a e r := hd
    rw [hd, Nat.zero_add] at h1
    obtain ⟨b2, o2, a2, l2, r2, rfl, h19, h7⟩ := hE
    have h2 : (if a2.tag = 19 then Nam cs (i * 3) a2 else if a2.tag = 7 then cs[i]? = some (ptrT (.node b2 o2 a2 l2 r2)) else cs[i]? = some (valT (.node b2 o2 a2 l2 r2))) := h1.1
    rw [if_neg h19, if_neg h7] at h2
    rw [cell_of_row _ _ _ _ _ _ hc]
    exact h2

/-- A list gone through up to element i. -/
structure LpN (H pb rb fb vb : Nat) (pc : Array Value) (F : Ents) (its : List Tr) (L : Tr) (S1 : Rs) (W1 : World) (i : Nat) (si : Rs) (wr : World) : Prop where
  rs : RsW H pb rb fb vb pc F si wr
  fr : Fr H (Pt L) W1 wr
  rest : IsT wr (dropL i L)
  wand : ∀ w2, Fr H (Pt (dropL i L)) wr w2 → IsT w2 (reT F its (dropL i L) si) → IsT w2 (reT F its L S1)
  run : rsT F its (dropL i L) si = rsT F its L S1
variable {L : Tr} {S1 si : Rs} {W1 wr w3 : World} {i : Nat}
theorem LpN.start (h : RsW H pb rb fb vb pc F S1 W1) (hi : IsT W1 L) : LpN H pb rb fb vb pc F its L S1 W1 0 S1 W1 := ⟨h, Fr.refl _ _ _, hi, fun _ _ h => h, rfl⟩
theorem LpN.step (h : LpN H pb rb fb vb pc F its L S1 W1 i si wr) {s : Nat} (hs : s = 13 ∨ s = 14 ∨ s = 15 ∨ s = 16 ∨ s = 18) (hw : Ws s L) (hnd : (ps L).Nodup) {b o : Nat} {a : Nd} {e r : Tr} (hd : dropL i L = .node b o a e r) (hd2 : dropL (i + 1) L = r)
    (h1 : RsW H pb rb fb vb pc F (rsT F its e si) w3) (h2 : IsT w3 (reT F its e si)) (h3 : Fr H (Pt e) wr w3) : LpN H pb rb fb vb pc F its L S1 W1 (i + 1) (rsT F its e si) w3 := by
  have hwd := ws_drop hs i _ hw
  have uq := nd_drop i _ hnd
  have hps := ps_drop i L
  obtain ⟨_, hfr, rest, wand, run⟩ := h
  rw [hd] at hwd uq hps rest wand run
  obtain ⟨h15, hwe, hwr⟩ := ws_rest hs hwd
  have uq := uq_of uq
  have n9 : ¬ (a.tag = 9 ∧ a.flag = true) := fun h => by omega
  have e1 : ∀ S, rs1 F its a (lenV e) S = S := fun S => by unfold rs1; rw [if_neg (by omega), if_neg (by omega), if_neg (by omega), if_neg (by omega)]
  have e2 : ∀ S, wh1 F its a (lenV e) S = a.which := fun S => by unfold wh1; rw [if_neg (by omega), if_neg (by omega), if_neg (by omega)]
  rw [re_nine n9, e1, e2] at wand
  rw [rs_nine n9, e1] at run
  refine ⟨h1, hfr.trans (h3.mono fun t p hp => ⟨hp.1, hps p (ps_left hp.2)⟩), ?_, fun w2 hx hi => ?_, ?_⟩
  · rw [hd2]
    exact IsT.fr h3 (fun t p hp => (Pt.body t p hp).pos) hwr rest.2.1 (Pt.out uq.apart)
  · rw [hd2] at hx hi
    refine wand w2 ((h3.mono Pt.left).trans (hx.mono Pt.right)) ⟨?_, hi, ?_⟩
    · exact keep_re h2 hx hwe (reT_sh _ _ _ _) uq.apart_
    · unfold Own
      dsimp only
      rw [h15]
      trivial
  · rw [hd2]; exact run
theorem LpN.fin (h : LpN H pb rb fb vb pc F its L S1 W1 (lenL L) si wr) : si = rsT F its L S1 ∧ IsT wr (reT F its L S1) := by
  obtain ⟨_, _, _, wand, run⟩ := h
  rw [dropL_end] at wand run
  exact ⟨run, wand wr (Fr.refl _ _ _) trivial⟩

set_option maxRecDepth 100000 in
set_option maxHeartbeats 8000000 in
theorem call_one {b o : Nat} {a : Nd} {l r : Tr} (ht : a.tag = 3) (hw : Ws 0 (.node b o a l r)) (hH : Fresh H (.node b o a l r)) (hnd : (ps (.node b o a l r)).Nodup) (hfew : lenV l ≤ 1000000) (hpar : ∀ b o a l r, (BT.node b o a l r) ∈ its → a.tag = 17 → Ws 6 l ∧ lenV l ≤ 1000000)
    (hA : AllG (fun e => Ws 0 e ∧ GN 195 H pb rb fb vb pc F its valT e) (elems l)) : GN 249 H pb rb fb vb pc F its ptrT (.node b o a l r) := by
  obtain ⟨hoka, sx, sy, hsig, hwl, hwr⟩ := hw.parts
  rw [ht] at hsig
  cases hsig
  obtain rfl := hwr.nil_of
  have hn : a.name.size ≤ maxLen := by have := hoka.name; unfold maxLen; omega
  have uq := uq_of hnd
  have hbH : H ≤ b := hH.2.2 (by unfold placed; omega)
  intro s w h hi
  have hN := namW_of hi.2.2 hbH (.inr (.inr (.inl ht)))
  have n9 : ¬ (a.tag = 9 ∧ a.flag = true) := fun h => by omega
  have own2 : ∀ w', Own w' b a l .nil → w'.cell? ⟨b, 3, none⟩ = some (valT l) := by
    intro w' ho
    obtain ⟨cs, hc, _, h3, _⟩ := own_tag ho (n := 3) ht
    rw [cell_of_row _ _ _ _ _ _ hc]; exact h3
  have hst : rs1 F its a (lenV l) s = s.callName F its a.name a.npos (lenV l) := by simp [rs1, ht]
  have hwh : wh1 F its a (lenV l) s = whichC F its a.name (lenV l) a.which := by simp [wh1, ht]
  -- what is left behind the name
  have n0 : w.cell? ⟨b, 0, none⟩ = some (.string a.name) := hN.c0
  have n1 : w.cell? ⟨b, 1, none⟩ = some (.int .i64 a.npos) := hN.c1
  obtain ⟨q2, n2⟩ : ∃ q, w.cell? ⟨b, 2, none⟩ = some (.int .i64 q) := hN.c2
  have f2 : w.frozen? ⟨b, 2, none⟩ = false := hN.froz 2
  obtain ⟨ao, cp, hvl⟩ := hwl.lstval (.inl rfl)
  have mA := own2 w hi.2.2
  rw [hvl] at mA
  have hps := ps_elems (.inl rfl) hwl
  have fin0 : ∀ (S1 : Rs) (g : Int → Int) (W1 wr : World), s.callName F its a.name a.npos (lenV l) = S1 → whichC F its a.name (lenV l) = g → Fr H (Po a) w W1 → Wr b 2 g w W1 → IsT W1 l → Fr H (Pt (elems l)) W1 wr → RsW H pb rb fb vb pc F (rsT F its (elems l) S1) wr → IsT wr (reT F its (elems l) S1) →
      PostN H pb rb fb vb pc F (Pt (.node b o a l .nil)) (reT F its (.node b o a l .nil) s) (rsT F its (.node b o a l .nil) s) w (.returned (.tuple #[])) wr := by
    intro S1 g W1 wr e1 e2 x1 wr1 i1 xr hr ir
    have xr' : Fr H (Pt l) W1 wr := xr.mono fun t p hp => ⟨hp.1, by rw [hps]; exact hp.2⟩
    have o1 := own_wr hi.2.2 (.inr (.inr (.inl ht))) wr1
    have o3 := own_fr o1 xr' Pt.body (fun p hp ty hq => uq.own_l p hp hq.2) (by show a.tag ≠ 20; omega)
    refine ⟨rfl, ?_, ?_, (x1.mono Po.to).trans (xr'.mono Pt.left)⟩
    · rw [rs_nine n9, hst, e1]
      show RsW H pb rb fb vb pc F (rsT F its l S1) wr
      rw [hwl.lstrs (.inl rfl)]
      exact hr
    · rw [re_nine n9, hst, hwh, e1, e2]
      refine ⟨lst_done (.inl rfl) hwl i1 xr' Pt.body ir, trivial, own_sh o3 (reT_sh _ _ _ _) (Sh.refl _)⟩
  have own1 : ∀ (g : Int → Int) (W1 : World), Wr b 2 g w W1 → W1.cell? ⟨b, 3, none⟩ = some (valT l) := fun g W1 wr1 => by
    obtain ⟨cs, hc, _, h3, _⟩ := own_tag (own_wr hi.2.2 (.inr (.inr (.inl ht))) wr1) (n := 3) ht
    rw [cell_of_row _ _ _ _ _ _ hc]; exact h3
  have isl : ∀ (W1 : World), Fr H (Po a) w W1 → IsT W1 l := fun W1 x1 => IsT.fr x1 (fun t p hp => (Po.body t p hp).pos) hwl hi.1 (Po.out uq.own_l)
  have hni : ∀ S (W1 : World), RsW H pb rb fb vb pc F S W1 → Fr H (Po a) w W1 → NsW H pb rb fb vb pc F its S W1 := fun S W1 h1 x1 => h.fr h1 x1 Po.body
  have hndl : (ps (elems l)).Nodup := by rw [← hps]; exact uq.left
  have hwel := hwl.elems (.inl rfl)
  have isel : ∀ W1, IsT W1 l → IsT W1 (elems l) := fun W1 h => by
    cases l with
    | nil => trivial
    | node => exact h.1
  have HF : Hid _ := fin0
  have HI : Hid _ := isl
  have HW : Hid _ := own1
  have HNI : Hid _ := hni
  have HISE : Hid _ := isel
  have HND : Hid ((ps (elems l)).Nodup) := hndl
  have HWE : Hid (Ws 13 (elems l)) := hwel
  have HWL : Hid (Ws 3 l) := hwl
  have HPS : Hid (ps l = ps (elems l)) := hps
  have t1 := ta_fun_nil w
  have t2 := fun q => ta_fun_hit q w
  have t3 := fun q => ta_fun_miss q w
  clear fin0 isl own1 hni isel hndl hwel hwl hps hst hwh n9 uq hnd hH hw
  show Calls Tryz.prog 249 #[.pointer (some ⟨rb, 0, none⟩), .pointer (some ⟨b, 0, none⟩)] w (PostN H pb rb fb vb pc F (Pt (.node b o a l .nil)) (reT F its (.node b o a l .nil) s) (rsT F its (.node b o a l .nil) s) w)
  rcases meant_ways h a.name with hm | ⟨b5, o5, a5, l5, r5, hm, htag, hist⟩ | ⟨b5, o5, a5, l5, r5, hm, htag, hist⟩
  · obtain ⟨S1, hS1⟩ : ∃ S1, S1 = s.fail 4 a.npos := ⟨_, rfl⟩
    have HS1 : Hid (s.callName F its a.name a.npos (lenV l) = S1) := by unfold Hid; rw [hS1]; unfold Rs.callName funcOf; rw [hm]
    have HG1 : Hid (whichC F its a.name (lenV l) = fun q => q) := by unfold Hid; funext q; unfold whichC funcOf; rw [hm]
    go_enter Tryz.func249, Tryz.ntmps249
    go_wp2_with fail
    refine (meant_any w h.rs h.it h.fo hn).mono ?_
    rintro e W2 ⟨rfl, rfl⟩
    rw [hm]
    unfold valM
    go_wp2_with fail
    refine (nfail_any 4 a.npos _ h.rs).mono ?_
    rintro e W1 ⟨rfl, h1, x1'⟩
    rw [← hS1] at h1
    have wr1 : Wr b 2 (fun q => q) w W1 := Wr.id (hN.keep0 x1')
    have x1 : Fr H (Po a) w W1 := x1'.mono F0.to
    clear x1' hS1
    have m3 := HW.out _ _ wr1
    rw [hvl] at m3
    have i1 := HI.out _ x1
    have HN1 : Hid (NsW H pb rb fb vb pc F its S1 W1) := HNI.out _ _ h1 x1
    have HI1 : Hid (IsT W1 l) := i1
    have L0 := LpN.start (its := its) (L := elems l) h1 (HISE.out _ i1)
    have FIN : Hid _ := fun wr => HF.out _ _ W1 wr HS1.out HG1.out x1 wr1 i1
    clear i1 h1 x1 wr1 HS1 HG1 HF HNI HISE HI HW
    go_wp2_with fail
    go_loopg [62] (lenV l) (fun m v wr => ∃ (i : Nat) (si : Rs), v = .int .i64 i ∧ i ≤ lenV l ∧ lenV l ≤ i + m ∧ LpN H pb rb fb vb pc F its (elems l) S1 W1 i si wr)
    case atStart => exact ⟨0, S1, rfl, Nat.zero_le _, by omega, L0⟩
    case round =>
      clear L0
      obtain ⟨i, si, rfl, hle, hm, LP⟩ := hrel
      have HLP : Hid _ := LP
      by_cases hlt : i < lenV l
      · have hltI : (i : Int) < (lenV l : Int) := by omega
        obtain ⟨b2, o2, a2, e2, r2, hd, hd2⟩ := dropL_lt i (elems l) (by rw [← lenV_elems]; exact hlt)
        have hAi := AllG.drop i _ hA
        rw [hd] at hAi
        obtain ⟨h15, ⟨hE, hG⟩, _⟩ := hAi
        obtain ⟨gg, rfl, hcell⟩ := lst_cell (.inl rfl) HWL.out HI1.out LP.fr Pt.body hvl hd (by
          cases e2 with
          | nil => exact absurd hE (by unfold Ws nilOk; omega)
          | node b o a l r =>
            obtain ⟨_, x, y, e, _⟩ := hE.parts
            exact ⟨b, o, a, l, r, rfl, fun h => (by rw [h] at e; cases e), fun h => (by rw [h] at e; cases e)⟩)
        obtain ⟨u, p, hve⟩ := hE.val (.inl rfl)
        have hie := LP.rest
        rw [hd] at hie
        have hcall := hG si wr (HN1.out.fr LP.rs LP.fr Pt.body) hie.1
        rw [hve] at hcell hcall
        have HSTEP : Hid _ := fun w3 => HLP.out.step (w3 := w3) (.inl rfl) HWE.out HND.out hd hd2
        clear hG hE hd hd2 hie LP
        go_wp2_with fail
        refine hcall.mono ?_
        rintro e W3 ⟨rfl, h3, i3, x3⟩
        obtain ⟨m, rfl⟩ : ∃ m, gk = m + 1 := ⟨gk - 1, by omega⟩
        have fin : ∃ (i' : Nat) (si : Rs), Value.int .i64 ((i : Int) + 1) = .int .i64 i' ∧ i' ≤ lenV l ∧ lenV l ≤ i' + m ∧ LpN H pb rb fb vb pc F its (elems l) S1 W1 i' si W3 :=
          ⟨i + 1, _, by simp, by omega, by omega, HSTEP.out W3 h3 i3 x3⟩
        clear HSTEP HLP h3 i3 x3
        go_wp2
        go_roundg m
        case rel => exact fin
        case measure => omega
      · have hltI : ¬ (i : Int) < (lenV l : Int) := by omega
        have hi2 : i = lenL (elems l) := by rw [← lenV_elems]; omega
        have fin : PostN H pb rb fb vb pc F (Pt (.node b o a l .nil)) (reT F its (.node b o a l .nil) s) (rsT F its (.node b o a l .nil) s) w (.returned (.tuple #[])) wr := by
          subst hi2
          obtain ⟨e1, e2⟩ := LP.fin
          have hr := LP.rs
          rw [e1] at hr
          exact FIN.out wr LP.fr hr e2
        clear hi2 LP HLP FIN
        go_wp2
        go_end0
        exact fin
  · obtain ⟨S1, hS1⟩ : ∃ S1, S1 = s.fail 4 a.npos := ⟨_, rfl⟩
    have HS1 : Hid (s.callName F its a.name a.npos (lenV l) = S1) := by unfold Hid; rw [hS1]; unfold Rs.callName funcOf; rw [hm]; simp [htag]
    have HG1 : Hid (whichC F its a.name (lenV l) = fun q => q) := by unfold Hid; funext q; unfold whichC funcOf; rw [hm]; simp [htag]
    have hv : valT (.node b5 o5 a5 l5 r5) = .iface 192 (.pointer (some ⟨b5, 0, none⟩)) := by show (if a5.tag = 20 then _ else _) = _; rw [if_neg (by omega), htag]; rfl
    clear hist htag
    go_enter Tryz.func249, Tryz.ntmps249
    go_wp2_with fail
    refine (meant_any w h.rs h.it h.fo hn).mono ?_
    rintro e W2 ⟨rfl, rfl⟩
    rw [hm]
    unfold valM
    dsimp only
    rw [hv]
    go_wp2_with fail
    refine (nfail_any 4 a.npos _ h.rs).mono ?_
    rintro e W1 ⟨rfl, h1, x1'⟩
    rw [← hS1] at h1
    have wr1 : Wr b 2 (fun q => q) w W1 := Wr.id (hN.keep0 x1')
    have x1 : Fr H (Po a) w W1 := x1'.mono F0.to
    clear x1' hS1 hv
    have m3 := HW.out _ _ wr1
    rw [hvl] at m3
    have i1 := HI.out _ x1
    have HN1 : Hid (NsW H pb rb fb vb pc F its S1 W1) := HNI.out _ _ h1 x1
    have HI1 : Hid (IsT W1 l) := i1
    have L0 := LpN.start (its := its) (L := elems l) h1 (HISE.out _ i1)
    have FIN : Hid _ := fun wr => HF.out _ _ W1 wr HS1.out HG1.out x1 wr1 i1
    clear i1 h1 x1 wr1 HS1 HG1 HF HNI HISE HI HW
    go_wp2_with fail
    go_loopg [62] (lenV l) (fun m v wr => ∃ (i : Nat) (si : Rs), v = .int .i64 i ∧ i ≤ lenV l ∧ lenV l ≤ i + m ∧ LpN H pb rb fb vb pc F its (elems l) S1 W1 i si wr)
    case atStart => exact ⟨0, S1, rfl, Nat.zero_le _, by omega, L0⟩
    case round =>
      clear L0
      obtain ⟨i, si, rfl, hle, hm, LP⟩ := hrel
      have HLP : Hid _ := LP
      by_cases hlt : i < lenV l
      · have hltI : (i : Int) < (lenV l : Int) := by omega
        obtain ⟨b2, o2, a2, e2, r2, hd, hd2⟩ := dropL_lt i (elems l) (by rw [← lenV_elems]; exact hlt)
        have hAi := AllG.drop i _ hA
        rw [hd] at hAi
        obtain ⟨h15, ⟨hE, hG⟩, _⟩ := hAi
        obtain ⟨gg, rfl, hcell⟩ := lst_cell (.inl rfl) HWL.out HI1.out LP.fr Pt.body hvl hd (by
          cases e2 with
          | nil => exact absurd hE (by unfold Ws nilOk; omega)
          | node b o a l r =>
            obtain ⟨_, x, y, e, _⟩ := hE.parts
            exact ⟨b, o, a, l, r, rfl, fun h => (by rw [h] at e; cases e), fun h => (by rw [h] at e; cases e)⟩)
        obtain ⟨u, p, hve⟩ := hE.val (.inl rfl)
        have hie := LP.rest
        rw [hd] at hie
        have hcall := hG si wr (HN1.out.fr LP.rs LP.fr Pt.body) hie.1
        rw [hve] at hcell hcall
        have HSTEP : Hid _ := fun w3 => HLP.out.step (w3 := w3) (.inl rfl) HWE.out HND.out hd hd2
        clear hG hE hd hd2 hie LP
        go_wp2_with fail
        refine hcall.mono ?_
        rintro e W3 ⟨rfl, h3, i3, x3⟩
        obtain ⟨m, rfl⟩ : ∃ m, gk = m + 1 := ⟨gk - 1, by omega⟩
        have fin : ∃ (i' : Nat) (si : Rs), Value.int .i64 ((i : Int) + 1) = .int .i64 i' ∧ i' ≤ lenV l ∧ lenV l ≤ i' + m ∧ LpN H pb rb fb vb pc F its (elems l) S1 W1 i' si W3 :=
          ⟨i + 1, _, by simp, by omega, by omega, HSTEP.out W3 h3 i3 x3⟩
        clear HSTEP HLP h3 i3 x3
        go_wp2
        go_roundg m
        case rel => exact fin
        case measure => omega
      · have hltI : ¬ (i : Int) < (lenV l : Int) := by omega
        have hi2 : i = lenL (elems l) := by rw [← lenV_elems]; omega
        have fin : PostN H pb rb fb vb pc F (Pt (.node b o a l .nil)) (reT F its (.node b o a l .nil) s) (rsT F its (.node b o a l .nil) s) w (.returned (.tuple #[])) wr := by
          subst hi2
          obtain ⟨e1, e2⟩ := LP.fin
          have hr := LP.rs
          rw [e1] at hr
          exact FIN.out wr LP.fr hr e2
        clear hi2 LP HLP FIN
        go_wp2
        go_end0
        exact fin
  · have hv : valT (.node b5 o5 a5 l5 r5) = .iface 106 (.pointer (some ⟨b5, 0, none⟩)) := by show (if a5.tag = 20 then _ else _) = _; rw [if_neg (by omega), htag]; rfl
    obtain ⟨hL5, hfew5⟩ := hpar b5 o5 a5 l5 r5 (meant_mem hm) htag
    obtain ⟨ao5, cp5, hv5⟩ := hL5.lstval (.inr (.inr (.inr (.inl rfl))))
    obtain ⟨cs5, hc5, ⟨_, _, hq5⟩, hp5⟩ := hist
    have m5 : w.cell? ⟨b5, 2, none⟩ = some (.int .i64 a5.which) := by rw [cell_of_row _ _ _ _ _ _ hc5]; exact hq5
    have m6 : w.cell? ⟨b5, 3, none⟩ = some (.slice ao5 (lenV l5) cp5) := by rw [cell_of_row _ _ _ _ _ _ hc5, hp5, hv5]
    by_cases hlen : lenV l = lenV l5
    · obtain ⟨S1, hS1⟩ : ∃ S1, S1 = s := ⟨_, rfl⟩
      have HS1 : Hid (s.callName F its a.name a.npos (lenV l) = S1) := by unfold Hid; rw [hS1]; unfold Rs.callName funcOf; rw [hm]; simp [htag, hlen]
      have HG1 : Hid (whichC F its a.name (lenV l) = fun _ => a5.which) := by unfold Hid; funext q; unfold whichC funcOf; rw [hm]; simp [htag, hlen]
      have hw := fun n => (hN.drewN n).write (h.rs.drewN n) a5.which
      have HWr : Hid _ := hw
      have hlb : ((lenV l : Int) != (lenV l5 : Int)) = false := by simp [hlen]
      have HLn : Hid (lenV l = lenV l5) := hlen
      clear htag hc5 hp5 hq5 hv5 hL5 hw hlen
      go_enter Tryz.func249, Tryz.ntmps249
      go_wp2_with fail
      refine (meant_any w h.rs h.it h.fo hn).mono ?_
      rintro e W2 ⟨rfl, rfl⟩
      rw [hm]
      unfold valM
      dsimp only
      rw [hv]
      go_wp2_with fail
      go_quiet (fail)
      obtain ⟨h1, x1', _, _⟩ := HWr.out nq
      rw [← hS1] at h1
      have x1 := ((Fr.refl H (Po a) w).drewN nq).trans x1'
      have wr1 : Wr b 2 (fun _ => a5.which) w ((w.drewN nq).setCell ⟨b, 0 + 2, none⟩ (.int .i64 a5.which)) := Wr.after (w := w.drewN nq) (fun _ _ h => h) (Wr.of_set _)
      rw [Nat.zero_add] at h1 x1 wr1
      clear HWr x1' hlb hS1 hv
      go_upto_region 6 with fail
      generalize (w.drewN nq).setCell ⟨b, 2, none⟩ (.int .i64 a5.which) = W1 at *
      have m3 := HW.out _ _ wr1
      rw [hvl] at m3
      have i1 := HI.out _ x1
      have HN1 : Hid (NsW H pb rb fb vb pc F its S1 W1) := HNI.out _ _ h1 x1
      have HI1 : Hid (IsT W1 l) := i1
      have L0 := LpN.start (its := its) (L := elems l) h1 (HISE.out _ i1)
      have FIN : Hid _ := fun wr => HF.out _ _ W1 wr HS1.out HG1.out x1 wr1 i1
      clear i1 h1 x1 wr1 HS1 HG1 HF HNI HISE HI HW
      go_wp2_with fail
      go_loopg [62] (lenV l) (fun m v wr => ∃ (i : Nat) (si : Rs), v = .int .i64 i ∧ i ≤ lenV l ∧ lenV l ≤ i + m ∧ LpN H pb rb fb vb pc F its (elems l) S1 W1 i si wr)
      case atStart => exact ⟨0, S1, rfl, Nat.zero_le _, by omega, L0⟩
      case round =>
        clear L0
        obtain ⟨i, si, rfl, hle, hm, LP⟩ := hrel
        have HLP : Hid _ := LP
        by_cases hlt : i < lenV l
        · have hltI : (i : Int) < (lenV l : Int) := by omega
          obtain ⟨b2, o2, a2, e2, r2, hd, hd2⟩ := dropL_lt i (elems l) (by rw [← lenV_elems]; exact hlt)
          have hAi := AllG.drop i _ hA
          rw [hd] at hAi
          obtain ⟨h15, ⟨hE, hG⟩, _⟩ := hAi
          obtain ⟨gg, rfl, hcell⟩ := lst_cell (.inl rfl) HWL.out HI1.out LP.fr Pt.body hvl hd (by
            cases e2 with
            | nil => exact absurd hE (by unfold Ws nilOk; omega)
            | node b o a l r =>
              obtain ⟨_, x, y, e, _⟩ := hE.parts
              exact ⟨b, o, a, l, r, rfl, fun h => (by rw [h] at e; cases e), fun h => (by rw [h] at e; cases e)⟩)
          obtain ⟨u, p, hve⟩ := hE.val (.inl rfl)
          have hie := LP.rest
          rw [hd] at hie
          have hcall := hG si wr (HN1.out.fr LP.rs LP.fr Pt.body) hie.1
          rw [hve] at hcell hcall
          have HSTEP : Hid _ := fun w3 => HLP.out.step (w3 := w3) (.inl rfl) HWE.out HND.out hd hd2
          clear hG hE hd hd2 hie LP
          go_wp2_with fail
          refine hcall.mono ?_
          rintro e W3 ⟨rfl, h3, i3, x3⟩
          obtain ⟨m, rfl⟩ : ∃ m, gk = m + 1 := ⟨gk - 1, by omega⟩
          have fin : ∃ (i' : Nat) (si : Rs), Value.int .i64 ((i : Int) + 1) = .int .i64 i' ∧ i' ≤ lenV l ∧ lenV l ≤ i' + m ∧ LpN H pb rb fb vb pc F its (elems l) S1 W1 i' si W3 :=
            ⟨i + 1, _, by simp, by omega, by omega, HSTEP.out W3 h3 i3 x3⟩
          clear HSTEP HLP h3 i3 x3
          go_wp2
          go_roundg m
          case rel => exact fin
          case measure => omega
        · have hltI : ¬ (i : Int) < (lenV l : Int) := by omega
          have hi2 : i = lenL (elems l) := by rw [← lenV_elems]; omega
          have fin : PostN H pb rb fb vb pc F (Pt (.node b o a l .nil)) (reT F its (.node b o a l .nil) s) (rsT F its (.node b o a l .nil) s) w (.returned (.tuple #[])) wr := by
            subst hi2
            obtain ⟨e1, e2⟩ := LP.fin
            have hr := LP.rs
            rw [e1] at hr
            exact FIN.out wr LP.fr hr e2
          clear hi2 LP HLP FIN
          go_wp2
          go_end0
          exact fin
    · obtain ⟨S1, hS1⟩ : ∃ S1, S1 = s.fail 5 a.npos := ⟨_, rfl⟩
      have HS1 : Hid (s.callName F its a.name a.npos (lenV l) = S1) := by unfold Hid; rw [hS1]; unfold Rs.callName funcOf; rw [hm]; simp [htag, hlen]
      have HG1 : Hid (whichC F its a.name (lenV l) = fun q => q) := by unfold Hid; funext q; unfold whichC funcOf; rw [hm]; simp [htag, hlen]
      have hlb : ((lenV l : Int) != (lenV l5 : Int)) = true := by simpa using fun h => hlen (by omega)
      clear htag hc5 hp5 hq5 hv5 hL5 hlen
      go_enter Tryz.func249, Tryz.ntmps249
      go_wp2_with fail
      refine (meant_any w h.rs h.it h.fo hn).mono ?_
      rintro e W2 ⟨rfl, rfl⟩
      rw [hm]
      unfold valM
      dsimp only
      rw [hv]
      go_wp2_with fail
      go_quiet (fail)
      go_wp2_with fail
      refine (nfail_any 5 a.npos _ (h.rs.drewN nq)).mono ?_
      rintro e W1 ⟨rfl, h1, x1'⟩
      rw [← hS1] at h1
      have wr1 : Wr b 2 (fun q => q) w W1 := Wr.id ((hN.drewN nq).keep0 x1')
      have x1 : Fr H (Po a) w W1 := ((Fr.refl H (Po a) w).drewN nq).trans (x1'.mono F0.to)
      clear hlb x1' hS1 hv
      have m3 := HW.out _ _ wr1
      rw [hvl] at m3
      have i1 := HI.out _ x1
      have HN1 : Hid (NsW H pb rb fb vb pc F its S1 W1) := HNI.out _ _ h1 x1
      have HI1 : Hid (IsT W1 l) := i1
      have L0 := LpN.start (its := its) (L := elems l) h1 (HISE.out _ i1)
      have FIN : Hid _ := fun wr => HF.out _ _ W1 wr HS1.out HG1.out x1 wr1 i1
      clear i1 h1 x1 wr1 HS1 HG1 HF HNI HISE HI HW
      go_wp2_with fail
      go_loopg [62] (lenV l) (fun m v wr => ∃ (i : Nat) (si : Rs), v = .int .i64 i ∧ i ≤ lenV l ∧ lenV l ≤ i + m ∧ LpN H pb rb fb vb pc F its (elems l) S1 W1 i si wr)
      case atStart => exact ⟨0, S1, rfl, Nat.zero_le _, by omega, L0⟩
      case round =>
        clear L0
        obtain ⟨i, si, rfl, hle, hm, LP⟩ := hrel
        have HLP : Hid _ := LP
        by_cases hlt : i < lenV l
        · have hltI : (i : Int) < (lenV l : Int) := by omega
          obtain ⟨b2, o2, a2, e2, r2, hd, hd2⟩ := dropL_lt i (elems l) (by rw [← lenV_elems]; exact hlt)
          have hAi := AllG.drop i _ hA
          rw [hd] at hAi
          obtain ⟨h15, ⟨hE, hG⟩, _⟩ := hAi
          obtain ⟨gg, rfl, hcell⟩ := lst_cell (.inl rfl) HWL.out HI1.out LP.fr Pt.body hvl hd (by
            cases e2 with
            | nil => exact absurd hE (by unfold Ws nilOk; omega)
            | node b o a l r =>
              obtain ⟨_, x, y, e, _⟩ := hE.parts
              exact ⟨b, o, a, l, r, rfl, fun h => (by rw [h] at e; cases e), fun h => (by rw [h] at e; cases e)⟩)
          obtain ⟨u, p, hve⟩ := hE.val (.inl rfl)
          have hie := LP.rest
          rw [hd] at hie
          have hcall := hG si wr (HN1.out.fr LP.rs LP.fr Pt.body) hie.1
          rw [hve] at hcell hcall
          have HSTEP : Hid _ := fun w3 => HLP.out.step (w3 := w3) (.inl rfl) HWE.out HND.out hd hd2
          clear hG hE hd hd2 hie LP
          go_wp2_with fail
          refine hcall.mono ?_
          rintro e W3 ⟨rfl, h3, i3, x3⟩
          obtain ⟨m, rfl⟩ : ∃ m, gk = m + 1 := ⟨gk - 1, by omega⟩
          have fin : ∃ (i' : Nat) (si : Rs), Value.int .i64 ((i : Int) + 1) = .int .i64 i' ∧ i' ≤ lenV l ∧ lenV l ≤ i' + m ∧ LpN H pb rb fb vb pc F its (elems l) S1 W1 i' si W3 :=
            ⟨i + 1, _, by simp, by omega, by omega, HSTEP.out W3 h3 i3 x3⟩
          clear HSTEP HLP h3 i3 x3
          go_wp2
          go_roundg m
          case rel => exact fin
          case measure => omega
        · have hltI : ¬ (i : Int) < (lenV l : Int) := by omega
          have hi2 : i = lenL (elems l) := by rw [← lenV_elems]; omega
          have fin : PostN H pb rb fb vb pc F (Pt (.node b o a l .nil)) (reT F its (.node b o a l .nil) s) (rsT F its (.node b o a l .nil) s) w (.returned (.tuple #[])) wr := by
            subst hi2
            obtain ⟨e1, e2⟩ := LP.fin
            have hr := LP.rs
            rw [e1] at hr
            exact FIN.out wr LP.fr hr e2
          clear hi2 LP HLP FIN
          go_wp2
          go_end0
          exact fin
end Go.Proofs.YtikffmloeifkpaaGreatDoor

/- Package names: conditions; how many variables there may be. -/
namespace Go.Proofs.YtikffmloeifkpaaGreatDoor
open Go.RowKit Go.Lib Go.Deep Go.ChangeMaps Go.MapKept
variable {H pb rb fb vb : Nat} {pc : Array Value} {F : Ents} {its : List Tr}

theorem ta_compare (u : TypeId) (v : Value) (w : World) : (Instr.typeAssert (.iface u v) 335 253 true).run Tryz.prog w = .ok (.tuple #[if u = 253 then v else .pointer none, .bool (decide (u = 253))]) w := ta_iface _ u v w Tryz.underlying253 (by kernel_rfl)
theorem ta_logic (u : TypeId) (v : Value) (w : World) : (Instr.typeAssert (.iface u v) 335 407 true).run Tryz.prog w = .ok (.tuple #[if u = 407 then v else .pointer none, .bool (decide (u = 407))]) w := ta_iface _ u v w Tryz.underlying407 (by kernel_rfl)

/-- A part of two parts, without a name. -/
theorem two_done {b o : Nat} {a : Nd} {l r : Tr} {w W2 W3 : World} {s : Rs} {sl sr : Nat} (hwl : Ws sl l) (_hwr : Ws sr r) (uq : Uq a l r) (hne : a.tag ≠ 20) (h9 : ¬ (a.tag = 9 ∧ a.flag = true)) (hwh : wh1 F its a (lenV l) s = a.which) (hrs : rs1 F its a (lenV l) s = s)
    (ho : Own w b a l r) (x2 : Fr H (Pt l) w W2) (i2 : IsT W2 (reT F its l s)) (x3 : Fr H (Pt r) W2 W3) (i3 : IsT W3 (reT F its r (rsT F its l s))) :
    IsT W3 (reT F its (.node b o a l r) s) ∧ Fr H (Pt (.node b o a l r)) w W3 := by
  have o2 := own_fr ho x2 Pt.body (fun p hp ty hq => uq.own_l p hp hq.2) hne
  have o3 := own_fr o2 x3 Pt.body (fun p hp ty hq => uq.own_r p hp hq.2) hne
  have l3 := keep_re i2 x3 hwl (reT_sh _ _ _ _) uq.apart_
  rw [re_nine h9, hwh, hrs]
  exact ⟨⟨l3, i3, own_sh o3 (reT_sh _ _ _ _) (reT_sh _ _ _ _)⟩, (x2.mono Pt.left).trans (x3.mono Pt.right)⟩
theorem right_kept {b o : Nat} {a : Nd} {l r : Tr} {w W2 : World} {sr : Nat} (hwr : Ws sr r) (uq : Uq a l r) (hi : IsT w (.node b o a l r)) (x2 : Fr H (Pt l) w W2) (hne : a.tag ≠ 20) : IsT W2 r ∧ Own W2 b a l r :=
  ⟨IsT.fr x2 (fun t p hp => (Pt.body t p hp).pos) hwr hi.2.1 (Pt.out uq.apart), own_fr hi.2.2 x2 Pt.body (fun p hp _ty hq => uq.own_l p hp hq.2) hne⟩
theorem plain_part {a : Nd} {n : Nat} {s : Rs} (h : a.tag ≠ 1 ∧ a.tag ≠ 2 ∧ a.tag ≠ 3 ∧ a.tag ≠ 9 ∧ a.tag ≠ 10) : ¬ (a.tag = 9 ∧ a.flag = true) ∧ wh1 F its a n s = a.which ∧ rs1 F its a n s = s := by
  refine ⟨fun e => h.2.2.2.1 e.1, ?_, ?_⟩
  · unfold wh1; rw [if_neg (by omega), if_neg (by omega), if_neg (by omega)]
  · unfold rs1; rw [if_neg (by omega), if_neg (by omega), if_neg (by omega), if_neg (by omega)]

set_option maxRecDepth 100000 in
set_option maxHeartbeats 4000000 in
theorem cond_one {b o : Nat} {a : Nd} {l r : Tr} (hw : Ws 1 (.node b o a l r)) (hnd : (ps (.node b o a l r)).Nodup)
    (h7 : a.tag = 7 → Ws 0 l ∧ Ws 0 r ∧ GN 195 H pb rb fb vb pc F its valT l ∧ GN 195 H pb rb fb vb pc F its valT r)
    (h8 : a.tag = 8 → Ws 1 l ∧ Ws 1 r ∧ GN 303 H pb rb fb vb pc F its valT l ∧ GN 303 H pb rb fb vb pc F its valT r) : GN 303 H pb rb fb vb pc F its valT (.node b o a l r) := by
  intro s w h hi
  obtain ⟨hoka, sx, sy, hsig, hwl, hwr⟩ := hw.parts
  have ht : a.tag = 7 ∨ a.tag = 8 := by
    by_cases h1 : a.tag = 7
    · exact .inl h1
    by_cases h2 : a.tag = 8
    · exact .inr h2
    · exfalso; simp [sig, h1, h2] at hsig
  have uq := uq_of hnd
  obtain ⟨n9, hwh, hrs⟩ := plain_part (F := F) (its := its) (a := a) (n := lenV l) (s := s) (by omega)
  have hne : a.tag ≠ 20 := by omega
  have hown := hi.2.2
  have hv : valT (.node b o a l r) = .iface (ityp a.tag) (.pointer (some ⟨b, 0, none⟩)) := if_neg hne
  rw [hv]
  clear hv hsig hoka
  have t1 := fun u v => ta_compare u v w
  have t2 := fun u v => ta_logic u v w
  have FIN : Hid _ := fun W2 W3 x2 i2 x3 i3 => two_done (H := H) (o := o) (W2 := W2) (W3 := W3) hwl hwr uq hne n9 hwh hrs hown x2 i2 x3 i3
  have RK : Hid _ := fun W2 x2 => right_kept (H := H) (W2 := W2) hwr uq hi x2 hne
  have hrun : rsT F its (.node b o a l r) s = rsT F its r (rsT F its l s) := by rw [rs_nine n9, hrs]
  rw [hrun]
  have HN : Hid (NsW H pb rb fb vb pc F its s w) := h
  rcases ht with k7 | k8
  · obtain ⟨hw0, hw1, hgl, hgr⟩ := h7 k7
    obtain ⟨u, p, hvl⟩ := hw0.val (.inl rfl)
    obtain ⟨u2, p2, hvr⟩ := hw1.val (.inl rfl)
    have HR : Hid (GN 195 H pb rb fb vb pc F its valT r) := hgr
    have own2 : ∀ w', Own w' b a l r → w'.cell? ⟨b, 2, none⟩ = some (valT l) ∧ w'.cell? ⟨b, 3, none⟩ = some (valT r) := by
      intro w' ho
      obtain ⟨cs, hc, _, _, h2, h3⟩ := own_tag ho (n := 7) k7
      exact ⟨by rw [cell_of_row _ _ _ _ _ _ hc]; exact h2, by rw [cell_of_row _ _ _ _ _ _ hc]; exact h3⟩
    have m2 := (own2 w hown).1
    have HO2 : Hid _ := own2
    have hcall := hgl s w h hi.1
    rw [hvl] at m2 hcall
    rw [show ityp a.tag = 253 by rw [k7]; rfl]
    clear h7 h8 hgl hgr hown n9 uq hnd hi hw hne hwh hrs hrun hwl hwr hw0 hw1 own2 k7 h
    go_enter Tryz.func303, Tryz.ntmps303
    go_wp2_with fail
    refine hcall.mono ?_
    rintro e W2 ⟨rfl, h2, i2, x2⟩
    obtain ⟨j2, o2⟩ := RK.out W2 x2
    have m3 := (HO2.out W2 o2).2
    have hcall2 := HR.out _ _ (HN.out.fr h2 x2 Pt.body) j2
    rw [hvr] at m3 hcall2
    go_wp2_with fail
    refine hcall2.mono ?_
    rintro e W3 ⟨rfl, h3, i3, x3⟩
    go_wp2
    go_end0
    obtain ⟨f1, f2⟩ := FIN.out W2 W3 x2 i2 x3 i3
    exact ⟨rfl, h3, f1, f2⟩
  · obtain ⟨hw0, hw1, hgl, hgr⟩ := h8 k8
    obtain ⟨u, p, hvl⟩ := hw0.val (.inr (.inl rfl))
    obtain ⟨u2, p2, hvr⟩ := hw1.val (.inr (.inl rfl))
    have HR : Hid (GN 303 H pb rb fb vb pc F its valT r) := hgr
    have own2 : ∀ w', Own w' b a l r → w'.cell? ⟨b, 1, none⟩ = some (valT l) ∧ w'.cell? ⟨b, 2, none⟩ = some (valT r) := by
      intro w' ho
      obtain ⟨cs, hc, _, h2, h3⟩ := own_tag ho (n := 8) k8
      exact ⟨by rw [cell_of_row _ _ _ _ _ _ hc]; exact h2, by rw [cell_of_row _ _ _ _ _ _ hc]; exact h3⟩
    have m2 := (own2 w hown).1
    have HO2 : Hid _ := own2
    have hcall := hgl s w h hi.1
    rw [hvl] at m2 hcall
    rw [show ityp a.tag = 407 by rw [k8]; rfl]
    clear h7 h8 hgl hgr hown n9 uq hnd hi hw hne hwh hrs hrun hwl hwr hw0 hw1 own2 k8 h
    go_enter Tryz.func303, Tryz.ntmps303
    go_wp2_with fail
    refine hcall.mono ?_
    rintro e W2 ⟨rfl, h2, i2, x2⟩
    obtain ⟨j2, o2⟩ := RK.out W2 x2
    have m3 := (HO2.out W2 o2).2
    have hcall2 := HR.out _ _ (HN.out.fr h2 x2 Pt.body) j2
    rw [hvr] at m3 hcall2
    go_wp2_with fail
    refine hcall2.mono ?_
    rintro e W3 ⟨rfl, h3, i3, x3⟩
    go_wp2
    go_end0
    obtain ⟨f1, f2⟩ := FIN.out W2 W3 x2 i2 x3 i3
    exact ⟨rfl, h3, f1, f2⟩

/-- How many variables are let. -/
def lets : Tr → Nat
  | .nil => 0
  | .node _ _ a l r => (if a.tag = 9 then 1 else 0) + lets l + lets r
theorem newVar_vars (s : Rs) (x : ByteArray) (p m : Int) : (s.newVar x p m).vars = s.vars := by
  unfold Rs.newVar
  split <;> split <;> simp [Rs.fail_vars]
theorem oldVar_vars (s : Rs) (x : ByteArray) (p : Int) : (s.oldVar x p).vars = s.vars := by
  unfold Rs.oldVar
  split
  · rfl
  · exact Rs.fail_vars _ _ _
theorem rs1_vars (a : Nd) (n : Nat) (s : Rs) : (rs1 F its a n s).vars = s.vars := by
  unfold rs1
  split
  · split
    · exact newVar_vars _ _ _ _
    · exact oldVar_vars _ _ _
  split
  · exact oldVar_vars _ _ _
  split
  · unfold Rs.arrayName; split
    · rfl
    · exact Rs.fail_vars _ _ _
  split
  · unfold Rs.callName
    split
    · split
      · rfl
      · exact Rs.fail_vars _ _ _
    · exact Rs.fail_vars _ _ _
  · rfl
theorem addVar_len (s : Rs) (x : ByteArray) : (s.addVar x).vars.length ≤ s.vars.length + 1 := by
  unfold Rs.addVar
  dsimp only
  rw [length_put]
  split <;> omega
theorem vars_le : ∀ (t : Tr) (s : Rs), (rsT F its t s).vars.length ≤ s.vars.length + lets t := by
  intro t
  induction t with
  | nil => intro s; exact Nat.le_refl _
  | node b o a l r ihl ihr =>
    intro s
    have h1 := ihl (rs1 F its a (lenV l) s)
    rw [rs1_vars] at h1
    show (if _ then _ else _ : Rs).vars.length ≤ s.vars.length + ((if a.tag = 9 then 1 else 0) + lets l + lets r)
    split
    · rename_i h9
      have := addVar_len (rsT F its l (rs1 F its a (lenV l) s)) a.name
      rw [if_pos h9.1]
      omega
    · have h2 := ihr (rsT F its l (rs1 F its a (lenV l) s))
      omega
end Go.Proofs.YtikffmloeifkpaaGreatDoor

/- Package names: a variable is given a value. -/
namespace Go.Proofs.YtikffmloeifkpaaGreatDoor
open Go.RowKit Go.Lib Go.Deep Go.ChangeMaps Go.MapKept
variable {H pb rb fb vb : Nat} {pc : Array Value} {F : Ents} {its : List Tr}

/-- What is asked of a part that may let variables. -/
def GS (f H pb rb fb vb : Nat) (pc : Array Value) (F : Ents) (its : List Tr) (val : Tr → Value) (t : Tr) : Prop :=
  ∀ s w, NsW H pb rb fb vb pc F its s w → IsT w t → s.vars.length + lets t ≤ 1000000 → Calls Tryz.prog f #[.pointer (some ⟨rb, 0, none⟩), val t] w (PostN H pb rb fb vb pc F (Pt t) (reT F its t s) (rsT F its t s) w)

set_option maxRecDepth 100000 in
set_option maxHeartbeats 4000000 in
theorem set_one {b o : Nat} {a : Nd} {l r : Tr} (ht : a.tag = 9) (hw : Ws 2 (.node b o a l r)) (hH : Fresh H (.node b o a l r)) (hnd : (ps (.node b o a l r)).Nodup)
    (hl : Ws 0 l ∧ GN 195 H pb rb fb vb pc F its valT l) : GS 302 H pb rb fb vb pc F its ptrT (.node b o a l r) := by
  obtain ⟨hoka, sx, sy, hsig, hwl, hwr⟩ := hw.parts
  rw [ht] at hsig
  cases hsig
  obtain rfl := hwr.nil_of
  have hn : a.name.size ≤ maxLen := by have := hoka.name; unfold maxLen; omega
  have uq := uq_of hnd
  have hbH : H ≤ b := hH.2.2 (by unfold placed; omega)
  intro s w h hi hvb
  have hN := namW_of hi.2.2 hbH (.inr (.inr (.inr (.inl ht))))
  obtain ⟨u, p, hvl⟩ := hwl.val (.inl rfl)
  have HL : Hid (GN 195 H pb rb fb vb pc F its valT l) := hl.2
  have own2 : ∀ w' a', a'.tag = 9 → Own w' b a' l .nil → w'.cell? ⟨b, 3, none⟩ = some (valT l) := by
    intro w' a' ht' ho
    obtain ⟨cs, hc, _, h3, _⟩ := own_tag ho (n := 9) ht'
    rw [cell_of_row _ _ _ _ _ _ hc]; exact h3
  have mf : w.cell? ⟨b, 4, none⟩ = some (.bool a.flag) := by
    obtain ⟨cs, hc, _, _, h3⟩ := own_tag hi.2.2 (n := 9) ht
    rw [cell_of_row _ _ _ _ _ _ hc]; exact h3
  have HN : Hid (NsW H pb rb fb vb pc F its s w) := h
  have HI : Hid (IsT w (.node b o a l .nil)) := hi
  have HU : Hid (Uq a l .nil) := uq
  have HT : Hid (a.tag = 9) := ht
  show Calls Tryz.prog 302 #[.pointer (some ⟨rb, 0, none⟩), .pointer (some ⟨b, 0, none⟩)] w _
  cases hfl : a.flag
  · rw [hfl] at mf
    have n9 : ¬ (a.tag = 9 ∧ a.flag = true) := fun h => by rw [hfl] at h; cases h.2
    have hrs : rs1 F its a (lenV l) s = s.oldVar a.name a.npos := by unfold rs1; rw [if_pos ht, hfl]; rfl
    have hwh : wh1 F its a (lenV l) s = (look a.name s.vars).getD 0 := by unfold wh1; rw [if_pos (.inr ht)]
    rw [re_nine n9, rs_nine n9, hrs, hwh]
    have HO2 : Hid _ := own2
    clear hl hw hH hnd uq hrs hwh n9 own2 hvb ht hi hfl
    go_enter Tryz.func302, Tryz.ntmps302
    go_wp2_with fail
    refine (oldVar_any w h.rs hN hn).mono ?_
    rintro e W2 ⟨rfl, h2, x2, wr2⟩
    have o2 : Own W2 b { a with which := (look a.name s.vars).getD 0 } l .nil := own_wr HI.out.2.2 (.inr (.inr (.inr (.inl HT.out)))) wr2
    have i2 : IsT W2 l := IsT.fr x2 (fun t p hp => (Po.body t p hp).pos) hwl HI.out.1 (Po.out HU.out.own_l)
    have m3 := HO2.out W2 { a with which := (look a.name s.vars).getD 0 } HT.out o2
    have hcall := HL.out _ _ (HN.out.fr h2 x2 Po.body) i2
    rw [hvl] at m3 hcall
    have HO3 : Hid (Own W2 b { a with which := (look a.name s.vars).getD 0 } l .nil) := o2
    clear o2 wr2 i2 HN
    go_wp2_with fail
    refine hcall.mono ?_
    rintro e W3 ⟨rfl, h3, i3, x3⟩
    go_wp2
    refine bodyPost_ret (results_none rfl _ _ _) rfl ?_
    have o3 := own_fr HO3.out x3 Pt.body (fun p hp ty hq => HU.out.own_l p hp hq.2) (by have := HT.out; show a.tag ≠ 20; omega)
    exact ⟨rfl, h3, ⟨i3, trivial, own_sh o3 (reT_sh _ _ _ _) (Sh.refl _)⟩, (x2.mono Po.to).trans (x3.mono Pt.left)⟩
  · rw [hfl] at mf
    have hrs : rs1 F its a (lenV l) s = s.newVar a.name a.npos 12 := by unfold rs1; rw [if_pos ht, hfl]; rfl
    have e1 : rsT F its (.node b o a l .nil) s = (rsT F its l (s.newVar a.name a.npos 12)).addVar a.name := by
      show (if _ then _ else _) = _
      rw [if_pos ⟨ht, hfl⟩, hrs]
    have e2 : reT F its (.node b o a l .nil) s = .node b o { a with which := (rsT F its l (s.newVar a.name a.npos 12)).vars.length } (reT F its l (s.newVar a.name a.npos 12)) .nil := by
      show (if _ then _ else _) = _
      rw [if_pos ⟨ht, hfl⟩, hrs]
    rw [e1, e2]
    have hvl2 := vars_le (F := F) (its := its) l (s.newVar a.name a.npos 12)
    rw [newVar_vars] at hvl2
    have hbd : (rsT F its l (s.newVar a.name a.npos 12)).vars.length ≤ 1000000 := by
      have : lets (.node b o a l .nil) = 1 + lets l + 0 := by show (if a.tag = 9 then 1 else 0) + _ + _ = _; rw [if_pos ht]; rfl
      omega
    have HO2 : Hid _ := own2
    have HNW : Hid (∀ w', Own w' b a l .nil → NamW H (Po a) w' b 0 a.name a.npos) := fun w' ho => namW_of ho hbH (.inr (.inr (.inr (.inl ht))))
    clear hl hw hH hnd uq hrs own2 hvb ht hi hfl e1 e2 hvl2
    go_enter Tryz.func302, Tryz.ntmps302
    go_wp2_with fail
    refine (newVar_any w 12 h.rs hN hn).mono ?_
    rintro e W2 ⟨rfl, h2, x2⟩
    have o2 := own_fr HI.out.2.2 x2 F0.body (fun p hp ty hq => hq) (by have := HT.out; omega)
    have i2 : IsT W2 l := IsT.fr x2 (fun t p hp => absurd hp id) hwl HI.out.1 (fun _ _ _ h => h)
    have m3 := HO2.out W2 a HT.out o2
    have hcall := HL.out _ _ (HN.out.fr h2 x2 F0.body) i2
    rw [hvl] at m3 hcall
    have HO3 : Hid (Own W2 b a l .nil) := o2
    clear o2 i2 HN
    go_wp2_with fail
    refine hcall.mono ?_
    rintro e W3 ⟨rfl, h3, i3, x3⟩
    have o3 := own_fr HO3.out x3 Pt.body (fun p hp ty hq => HU.out.own_l p hp hq.2) (by have := HT.out; omega)
    have hN3 := HNW.out W3 o3
    have HO4 : Hid (Own W3 b a l .nil) := o3
    clear o3
    go_wp2_with fail
    refine (addVar_any W3 h3 hN3 hn hbd).mono ?_
    rintro e W4 ⟨rfl, h4, x4, wr4⟩
    go_wp2
    go_end0
    have o4 : Own W4 b { a with which := ((rsT F its l (s.newVar a.name a.npos 12)).vars.length : Int) } l .nil := own_wr HO4.out (.inr (.inr (.inr (.inl HT.out)))) wr4
    have i4 : IsT W4 (reT F its l (s.newVar a.name a.npos 12)) := IsT.fr x4 (fun t p hp => (Po.body t p hp).pos) ((reT_sh F its l _).ws hwl) i3 (by rw [(reT_sh F its l (s.newVar a.name a.npos 12)).ps]; exact Po.out HU.out.own_l)
    exact ⟨rfl, h4, ⟨i4, trivial, own_sh o4 (reT_sh _ _ _ _) (Sh.refl _)⟩, ((x2.mono F0.to).trans (x3.mono Pt.left)).trans (x4.mono Po.to)⟩
end Go.Proofs.YtikffmloeifkpaaGreatDoor

/- Package names: a statement. -/
namespace Go.Proofs.YtikffmloeifkpaaGreatDoor
open Go.RowKit Go.Lib Go.Deep Go.ChangeMaps Go.MapKept
variable {H pb rb fb vb : Nat} {pc : Array Value} {F : Ents} {its : List Tr}

theorem ta_set (u : TypeId) (v : Value) (w : World) : (Instr.typeAssert (.iface u v) 250 326 true).run Tryz.prog w = .ok (.tuple #[if u = 326 then v else .pointer none, .bool (decide (u = 326))]) w := ta_iface _ u v w Tryz.underlying326 (by kernel_rfl)
theorem ta_store (u : TypeId) (v : Value) (w : World) : (Instr.typeAssert (.iface u v) 250 329 true).run Tryz.prog w = .ok (.tuple #[if u = 329 then v else .pointer none, .bool (decide (u = 329))]) w := ta_iface _ u v w Tryz.underlying329 (by kernel_rfl)
theorem ta_if (u : TypeId) (v : Value) (w : World) : (Instr.typeAssert (.iface u v) 250 332 true).run Tryz.prog w = .ok (.tuple #[if u = 332 then v else .pointer none, .bool (decide (u = 332))]) w := ta_iface _ u v w Tryz.underlying332 (by kernel_rfl)
theorem ta_while (u : TypeId) (v : Value) (w : World) : (Instr.typeAssert (.iface u v) 250 338 true).run Tryz.prog w = .ok (.tuple #[if u = 338 then v else .pointer none, .bool (decide (u = 338))]) w := ta_iface _ u v w Tryz.underlying338 (by kernel_rfl)
theorem ta_return (u : TypeId) (v : Value) (w : World) : (Instr.typeAssert (.iface u v) 250 341 true).run Tryz.prog w = .ok (.tuple #[if u = 341 then v else .pointer none, .bool (decide (u = 341))]) w := ta_iface _ u v w Tryz.underlying341 (by kernel_rfl)
theorem ta_out (u : TypeId) (v : Value) (w : World) : (Instr.typeAssert (.iface u v) 250 344 true).run Tryz.prog w = .ok (.tuple #[if u = 344 then v else .pointer none, .bool (decide (u = 344))]) w := ta_iface _ u v w Tryz.underlying344 (by kernel_rfl)

theorem stmt_tag {b o : Nat} {a : Nd} {l r : Tr} (hw : Ws 2 (.node b o a l r)) : 9 ≤ a.tag ∧ a.tag ≤ 14 := by
  obtain ⟨_, x, y, hsig, _⟩ := hw.parts
  by_cases h1 : a.tag = 9
  · omega
  by_cases h2 : a.tag = 10
  · omega
  by_cases h3 : a.tag = 11
  · omega
  by_cases h4 : a.tag = 12
  · omega
  by_cases h5 : a.tag = 13
  · omega
  by_cases h6 : a.tag = 14
  · omega
  exfalso; simp [sig, h1, h2, h3, h4, h5, h6] at hsig
theorem lets_node (b o : Nat) (a : Nd) (l r : Tr) : lets (.node b o a l r) = (if a.tag = 9 then 1 else 0) + lets l + lets r := rfl

set_option maxRecDepth 100000 in
set_option maxHeartbeats 8000000 in
theorem stmt_one {b o : Nat} {a : Nd} {l r : Tr} (hw : Ws 2 (.node b o a l r)) (hH : Fresh H (.node b o a l r)) (hnd : (ps (.node b o a l r)).Nodup)
    (h9 : a.tag = 9 → GS 302 H pb rb fb vb pc F its ptrT (.node b o a l r))
    (hE : a.tag = 10 ∨ a.tag = 13 ∨ a.tag = 14 → Ws 0 l ∧ GN 195 H pb rb fb vb pc F its valT l) (hE2 : a.tag = 10 → Ws 0 r ∧ GN 195 H pb rb fb vb pc F its valT r)
    (hC : a.tag = 11 ∨ a.tag = 12 → Ws 1 l ∧ GN 303 H pb rb fb vb pc F its valT l)
    (hB : a.tag = 12 → Ws 4 r ∧ GS 196 H pb rb fb vb pc F its valT r)
    (hI : a.tag = 11 → ∃ x y z p q, r = .node x y z p q ∧ z.tag = 18 ∧ Ws 4 p ∧ Ws 4 q ∧ GS 196 H pb rb fb vb pc F its valT p ∧ GS 196 H pb rb fb vb pc F its valT q) :
    GS 250 H pb rb fb vb pc F its valT (.node b o a l r) := by
  obtain ⟨hoka, sx, sy, hsig, hwl, hwr⟩ := hw.parts
  obtain ⟨ht1, ht2⟩ := stmt_tag hw
  have hn : a.name.size ≤ maxLen := by have := hoka.name; unfold maxLen; omega
  have uq := uq_of hnd
  have hbH : H ≤ b := hH.2.2 (by unfold placed; omega)
  intro s w h hi hvb
  have hne : a.tag ≠ 20 := by omega
  have hown := hi.2.2
  have hv : valT (.node b o a l r) = .iface (ityp a.tag) (.pointer (some ⟨b, 0, none⟩)) := if_neg hne
  rw [hv]
  have t1 := fun u v => ta_set u v w
  have t2 := fun u v => ta_store u v w
  have t3 := fun u v => ta_if u v w
  have t4 := fun u v => ta_while u v w
  have t5 := fun u v => ta_return u v w
  have t6 := fun u v => ta_out u v w
  have HN : Hid (NsW H pb rb fb vb pc F its s w) := h
  have HU : Hid (Uq a l r) := uq
  have HI : Hid (IsT w (.node b o a l r)) := hi
  by_cases k9 : a.tag = 9
  · have hcall := h9 k9 s w h hi hvb
    have hcall' : Calls Tryz.prog 302 #[.pointer (some ⟨rb, 0, none⟩), .pointer (some ⟨b, 0, none⟩)] w (PostN H pb rb fb vb pc F (Pt (.node b o a l r)) (reT F its (.node b o a l r) s) (rsT F its (.node b o a l r) s) w) := hcall
    rw [show ityp a.tag = 326 by rw [k9]; rfl]
    clear h9 hE hE2 hC hB hI hcall hw hH hnd uq hown hv hsig hwl hwr h hi hvb k9
    go_enter Tryz.func250, Tryz.ntmps250
    go_wp2_with fail
    refine hcall'.mono ?_
    rintro e W2 ⟨rfl, h2, i2, x2⟩
    go_wp2
    go_end0
    exact ⟨rfl, h2, i2, x2⟩
  have n9 : ¬ (a.tag = 9 ∧ a.flag = true) := fun h => k9 h.1
  have hlets : lets (.node b o a l r) = lets l + lets r := by rw [lets_node, if_neg k9]; omega
  rw [hlets] at hvb
  by_cases k10 : a.tag = 10
  · have hrs : rs1 F its a (lenV l) s = s.arrayName F its a.name a.npos := by unfold rs1; rw [if_neg (by omega), if_neg (by omega), if_pos (.inr k10)]
    have hwh : wh1 F its a (lenV l) s = whichA F its a.name a.which := by unfold wh1; rw [if_neg (by omega), if_pos (.inr k10)]
    rw [re_nine n9, rs_nine n9, hrs, hwh]
    have hN := namW_of hown hbH (.inr (.inr (.inr (.inr k10))))
    obtain ⟨hwl0, hgl⟩ := hE (.inl k10)
    obtain ⟨hwr0, hgr⟩ := hE2 k10
    obtain ⟨u, p, hvl⟩ := hwl0.val (.inl rfl)
    obtain ⟨u2, p2, hvr⟩ := hwr0.val (.inl rfl)
    have HL : Hid (GN 195 H pb rb fb vb pc F its valT l) := hgl
    have HR : Hid (GN 195 H pb rb fb vb pc F its valT r) := hgr
    have HT : Hid (a.tag = 10) := k10
    have own2 : ∀ w' a', a'.tag = 10 → Own w' b a' l r → w'.cell? ⟨b, 3, none⟩ = some (valT l) ∧ w'.cell? ⟨b, 4, none⟩ = some (valT r) := by
      intro w' a' ht' ho
      obtain ⟨cs, hc, _, h3, h4, _⟩ := own_tag ho (n := 10) ht'
      exact ⟨by rw [cell_of_row _ _ _ _ _ _ hc]; exact h3, by rw [cell_of_row _ _ _ _ _ _ hc]; exact h4⟩
    have HO2 : Hid _ := own2
    rw [show ityp a.tag = 329 by rw [k10]; rfl]
    clear h9 hE hE2 hC hB hI hw hH hnd uq hown hv hsig hwl hwr hi hvb k9 k10 n9 hlets hrs hwh own2 hgl hgr
    go_enter Tryz.func250, Tryz.ntmps250
    go_wp2_with fail
    refine (arrayName_any w h hN hn).mono ?_
    rintro e W2 ⟨rfl, h2, x2, wr2⟩
    have i2 : IsT W2 l := IsT.fr x2 (fun t p hp => (Po.body t p hp).pos) hwl0 HI.out.1 (Po.out HU.out.own_l)
    have j2 : IsT W2 r := IsT.fr x2 (fun t p hp => (Po.body t p hp).pos) hwr0 HI.out.2.1 (Po.out HU.out.own_r)
    have o2 : Own W2 b { a with which := whichA F its a.name a.which } l r := own_wr HI.out.2.2 (.inr (.inr (.inr (.inr HT.out)))) wr2
    have m3 := (HO2.out W2 { a with which := whichA F its a.name a.which } HT.out o2).1
    have HNW2 := HN.out.fr h2 x2 Po.body
    have hcall := HL.out _ _ HNW2 i2
    rw [hvl] at m3 hcall
    have HO3 : Hid (Own W2 b { a with which := whichA F its a.name a.which } l r) := o2
    clear o2 wr2 i2
    go_wp2_with fail
    refine hcall.mono ?_
    rintro e W3 ⟨rfl, h3, i3, x3⟩
    have o3 : Own W3 b { a with which := whichA F its a.name a.which } l r := own_fr HO3.out x3 Pt.body (fun p hp ty hq => HU.out.own_l p hp hq.2) (by have := HT.out; show a.tag ≠ 20; omega)
    have j3 : IsT W3 r := IsT.fr x3 (fun t p hp => (Pt.body t p hp).pos) hwr0 j2 (Pt.out HU.out.apart)
    have m4 := (HO2.out W3 { a with which := whichA F its a.name a.which } HT.out o3).2
    have hcall2 := HR.out _ _ (HNW2.fr h3 x3 Pt.body) j3
    rw [hvr] at m4 hcall2
    have HO4 : Hid (Own W3 b { a with which := whichA F its a.name a.which } l r) := o3
    clear o3 j3 j2 HNW2
    go_wp2_with fail
    refine hcall2.mono ?_
    rintro e W4 ⟨rfl, h4, i4, x4⟩
    go_wp2
    go_end0
    have o4 := own_fr HO4.out x4 Pt.body (fun p hp ty hq => HU.out.own_r p hp hq.2) (by have := HT.out; show a.tag ≠ 20; omega)
    have l4 := keep_re i3 x4 hwl0 (reT_sh _ _ _ _) HU.out.apart_
    exact ⟨rfl, h4, ⟨l4, i4, own_sh o4 (reT_sh _ _ _ _) (reT_sh _ _ _ _)⟩, ((x2.mono Po.to).trans (x3.mono Pt.left)).trans (x4.mono Pt.right)⟩
  obtain ⟨_, hwh, hrs⟩ := plain_part (F := F) (its := its) (a := a) (n := lenV l) (s := s) (by omega)
  have hrun : rsT F its (.node b o a l r) s = rsT F its r (rsT F its l s) := by rw [rs_nine n9, hrs]
  have hvl2 := vars_le (F := F) (its := its) l s
  have FIN : Hid _ := fun W2 W3 x2 i2 x3 i3 => two_done (H := H) (o := o) (W2 := W2) (W3 := W3) hwl hwr uq hne n9 hwh hrs hown x2 i2 x3 i3
  have RK : Hid _ := fun W2 x2 => right_kept (H := H) (W2 := W2) hwr uq hi x2 hne
  by_cases k11 : a.tag = 11
  · obtain ⟨x, y, z, p, q, rfl, hz, hwp, hwq, hgp, hgq⟩ := hI k11
    obtain ⟨hwl0, hgl⟩ := hC (.inl k11)
    obtain ⟨u, pp, hvl⟩ := hwl0.val (.inr (.inl rfl))
    obtain ⟨ao, cp, hvp⟩ := hwp.lstval (.inr (.inl rfl))
    obtain ⟨ao2, cp2, hvq⟩ := hwq.lstval (.inr (.inl rfl))
    have HP : Hid (GS 196 H pb rb fb vb pc F its valT p) := hgp
    have HQ : Hid (GS 196 H pb rb fb vb pc F its valT q) := hgq
    have own2 : ∀ w', Own w' b a l (.node x y z p q) → w'.cell? ⟨b, 0, none⟩ = some (valT l) ∧ w'.cell? ⟨b, 1, none⟩ = some (valT p) ∧ w'.cell? ⟨b, 2, none⟩ = some (valT q) := by
      intro w' ho
      obtain ⟨cs, hc, h0, x', y', z', p', q', e, h1, h2⟩ := own_tag ho (n := 11) k11
      simp only [BT.node.injEq] at e
      obtain ⟨rfl, rfl, rfl, rfl, rfl⟩ := e
      exact ⟨by rw [cell_of_row _ _ _ _ _ _ hc]; exact h0, by rw [cell_of_row _ _ _ _ _ _ hc]; exact h1, by rw [cell_of_row _ _ _ _ _ _ hc]; exact h2⟩
    have uq2 := uq_of (b := x) (o := y) uq.right
    obtain ⟨zn9, zwh, zrs⟩ := plain_part (F := F) (its := its) (a := z) (n := lenV p) (s := rsT F its l s) (by omega)
    have zrun : rsT F its (.node x y z p q) (rsT F its l s) = rsT F its q (rsT F its p (rsT F its l s)) := by rw [rs_nine zn9, zrs]
    have FIN2 : Hid _ := fun (w1 : World) ho W2 W3 x2 i2 x3 i3 => two_done (H := H) (b := x) (o := y) (W2 := W2) (W3 := W3) (w := w1) hwp hwq uq2 (by omega : z.tag ≠ 20) zn9 zwh zrs ho x2 i2 x3 i3
    have RK2 : Hid _ := fun (w1 : World) hi2 W2 x2 => right_kept (H := H) (b := x) (o := y) (W2 := W2) (w := w1) hwq uq2 hi2 x2 (by omega : z.tag ≠ 20)
    have hvp2 := vars_le (F := F) (its := its) p (rsT F its l s)
    have hlr : lets (.node x y z p q) = lets p + lets q := by rw [lets_node, if_neg (by omega)]; omega
    rw [hlr] at hvb
    have vb1 : (rsT F its l s).vars.length + lets p ≤ 1000000 := by omega
    have vb2 : (rsT F its p (rsT F its l s)).vars.length + lets q ≤ 1000000 := by omega
    have HO2 : Hid _ := own2
    have m2 := (own2 w hown).1
    have hcall := hgl s w h hi.1
    rw [hvl] at m2 hcall
    rw [hrun, zrun]
    have HT : Hid (a.tag = 11) := k11
    rw [show ityp a.tag = 332 by rw [k11]; rfl]
    clear h9 hE hE2 hC hB hI hw hH hnd uq hown hv hsig hwl hwr hi hvb k9 k10 k11 n9 hlets hrs hwh own2 hgl hgp hgq uq2 zn9 zwh zrs zrun hvp2 hlr hrun hvl2 h hwl0
    go_enter Tryz.func250, Tryz.ntmps250
    go_wp2_with fail
    refine hcall.mono ?_
    rintro e W2 ⟨rfl, h2, i2, x2⟩
    obtain ⟨j2, o2⟩ := RK.out W2 x2
    have m3 := (HO2.out W2 o2).2.1
    have HNW2 := HN.out.fr h2 x2 Pt.body
    have hcall2 := HP.out _ _ HNW2 j2.1 vb1
    rw [hvp] at m3 hcall2
    go_wp2_with fail
    refine hcall2.mono ?_
    rintro e W3 ⟨rfl, h3, i3, x3⟩
    obtain ⟨j3, z3⟩ := RK2.out W2 j2 W3 x3
    have x3' : Fr H (Pt (.node x y z p q)) W2 W3 := x3.mono Pt.left
    have o3 := own_fr o2 x3' Pt.body (fun p hp ty hq => HU.out.own_r p hp hq.2) (by have := HT.out; omega)
    have m4 := (HO2.out W3 o3).2.2
    have hcall3 := HQ.out _ _ (HNW2.fr h3 x3 Pt.body) j3 vb2
    rw [hvq] at m4 hcall3
    go_wp2_with fail
    refine hcall3.mono ?_
    rintro e W4 ⟨rfl, h4, i4, x4⟩
    go_wp2
    go_end0
    obtain ⟨g1, g2⟩ := FIN2.out W2 j2.2.2 W3 W4 x3 i3 x4 i4
    obtain ⟨f1, f2⟩ := FIN.out W2 W4 x2 i2 g2 g1
    exact ⟨rfl, h4, f1, f2⟩
  by_cases k12 : a.tag = 12
  · obtain ⟨hwl0, hgl⟩ := hC (.inr k12)
    obtain ⟨hwr0, hgr⟩ := hB k12
    obtain ⟨u, pp, hvl⟩ := hwl0.val (.inr (.inl rfl))
    obtain ⟨ao, cp, hvr⟩ := hwr0.lstval (.inr (.inl rfl))
    have HR : Hid (GS 196 H pb rb fb vb pc F its valT r) := hgr
    have own2 : ∀ w', Own w' b a l r → w'.cell? ⟨b, 0, none⟩ = some (valT l) ∧ w'.cell? ⟨b, 1, none⟩ = some (valT r) := by
      intro w' ho
      obtain ⟨cs, hc, h2, h3⟩ := own_tag ho (n := 12) k12
      exact ⟨by rw [cell_of_row _ _ _ _ _ _ hc]; exact h2, by rw [cell_of_row _ _ _ _ _ _ hc]; exact h3⟩
    have m2 := (own2 w hown).1
    have HO2 : Hid _ := own2
    have hcall := hgl s w h hi.1
    have vb1 : (rsT F its l s).vars.length + lets r ≤ 1000000 := by omega
    rw [hvl] at m2 hcall
    rw [hrun]
    rw [show ityp a.tag = 338 by rw [k12]; rfl]
    clear h9 hE hE2 hC hB hI hw hH hnd uq hown hv hsig hwl hwr hi hvb k9 k10 k11 k12 n9 hlets hrs hwh own2 hgl hgr hrun hvl2 h hwl0 hwr0
    go_enter Tryz.func250, Tryz.ntmps250
    go_wp2_with fail
    refine hcall.mono ?_
    rintro e W2 ⟨rfl, h2, i2, x2⟩
    obtain ⟨j2, o2⟩ := RK.out W2 x2
    have m3 := (HO2.out W2 o2).2
    have hcall2 := HR.out _ _ (HN.out.fr h2 x2 Pt.body) j2 vb1
    rw [hvr] at m3 hcall2
    go_wp2_with fail
    refine hcall2.mono ?_
    rintro e W3 ⟨rfl, h3, i3, x3⟩
    go_wp2
    go_end0
    obtain ⟨f1, f2⟩ := FIN.out W2 W3 x2 i2 x3 i3
    exact ⟨rfl, h3, f1, f2⟩
  have k1314 : a.tag = 13 ∨ a.tag = 14 := by omega
  have hr0 : r = .nil := by
    have : sy = 99 := by rcases k1314 with h | h <;> rw [h] at hsig <;> cases hsig <;> rfl
    subst this; exact hwr.nil_of
  subst hr0
  obtain ⟨hwl0, hgl⟩ := hE (.inr k1314)
  obtain ⟨u, pp, hvl⟩ := hwl0.val (.inl rfl)
  have m2 : w.cell? ⟨b, 0, none⟩ = some (valT l) := by
    rcases k1314 with k | k
    · obtain ⟨cs, hc, h2⟩ := own_tag hown (n := 13) k
      rw [cell_of_row _ _ _ _ _ _ hc]; exact h2
    · obtain ⟨cs, hc, h2⟩ := own_tag hown (n := 14) k
      rw [cell_of_row _ _ _ _ _ _ hc]; exact h2
  have hcall := hgl s w h hi.1
  rw [hvl] at m2 hcall
  rw [hrun]
  rcases k1314 with k13 | k14
  · rw [show ityp a.tag = 341 by rw [k13]; rfl]
    clear h9 hE hE2 hC hB hI hw hH hnd uq hown hv hsig hwl hwr hi hvb k9 k10 k11 k12 n9 hlets hrs hwh hgl hrun hvl2 h hwl0 k13
    go_enter Tryz.func250, Tryz.ntmps250
    go_wp2_with fail
    refine hcall.mono ?_
    rintro e W2 ⟨rfl, h2, i2, x2⟩
    go_wp2
    go_end0
    obtain ⟨f1, f2⟩ := FIN.out W2 W2 x2 i2 (Fr.refl _ _ _) trivial
    exact ⟨rfl, h2, f1, f2⟩
  · rw [show ityp a.tag = 344 by rw [k14]; rfl]
    clear h9 hE hE2 hC hB hI hw hH hnd uq hown hv hsig hwl hwr hi hvb k9 k10 k11 k12 n9 hlets hrs hwh hgl hrun hvl2 h hwl0 k14
    go_enter Tryz.func250, Tryz.ntmps250
    go_wp2_with fail
    refine hcall.mono ?_
    rintro e W2 ⟨rfl, h2, i2, x2⟩
    go_wp2
    go_end0
    obtain ⟨f1, f2⟩ := FIN.out W2 W2 x2 i2 (Fr.refl _ _ _) trivial
    exact ⟨rfl, h2, f1, f2⟩
end Go.Proofs.YtikffmloeifkpaaGreatDoor
