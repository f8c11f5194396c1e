/- The program's contracts, part 14: each says what a function of the program does, for every argument that its premises name. -/
import Derived.Test.YtikffmloeifkpaaGreatDoorM13
/- Package names: a block; all parts together. -/
namespace Go.Proofs.YtikffmloeifkpaaGreatDoor
open Go.RowKit Go.Lib Go.Deep Go.ChangeMaps Go.MapKept
variable {H pb rb fb vb : Nat} {pc : Array Value} {F : Ents} {its : List Tr}

theorem lets_elems {s : Nat} {t : Tr} (hs : s = 3 ∨ s = 4 ∨ s = 5 ∨ s = 6 ∨ s = 8) (h : Ws s t) : lets (elems t) = lets t := by
  rcases h.lst hs with rfl | ⟨b, o, a, l, rfl, ht, _⟩
  · rfl
  · rw [lets_node, if_neg (by omega)]; show lets l = _; simp [lets]
theorem lenV_le {s : Nat} {t : Tr} (hs : s = 3 ∨ s = 4 ∨ s = 5 ∨ s = 6 ∨ s = 8) (h : Ws s t) : lenV t ≤ 10000 := by
  rcases h.lst hs with rfl | ⟨b, o, a, l, rfl, ht, _⟩
  · show 0 ≤ 10000; omega
  · exact h.len ht

set_option maxRecDepth 100000 in
set_option maxHeartbeats 8000000 in
theorem block_one {l : Tr} (hwl : Ws 4 l) (hnd : (ps l).Nodup) (hA : AllG (fun e => Ws 2 e ∧ GS 250 H pb rb fb vb pc F its valT e) (elems l)) : GS 196 H pb rb fb vb pc F its valT l := by
  intro s w h hi hvb
  obtain ⟨ao, cp, hvl⟩ := hwl.lstval (.inr (.inl rfl))
  have hlen := lenV_le (.inr (.inl rfl)) hwl
  have hps := ps_elems (.inr (.inl rfl)) hwl
  have hndl : (ps (elems l)).Nodup := by rw [← hps]; exact hnd
  have hwel := hwl.elems (.inr (.inl rfl))
  have iel : IsT w (elems l) := by
    cases l with
    | nil => trivial
    | node => exact hi.1
  rw [← lets_elems (.inr (.inl rfl)) hwl] at hvb
  have HND : Hid ((ps (elems l)).Nodup) := hndl
  have HWE : Hid (Ws 14 (elems l)) := hwel
  have HWL : Hid (Ws 4 l) := hwl
  have HI1 : Hid (IsT w l) := hi
  have HN1 : Hid (NsW H pb rb fb vb pc F its s w) := h
  have L0 := LpN.start (its := its) (L := elems l) h.rs iel
  have FIN : Hid (∀ wr, Fr H (Pt (elems l)) w wr → RsW H pb rb fb vb pc F (rsT F its (elems l) s) wr → IsT wr (reT F its (elems l) s) → PostN H pb rb fb vb pc F (Pt l) (reT F its l s) (rsT F its l s) w (.returned (.tuple #[])) wr) := by
    intro wr hx hr ir
    refine ⟨rfl, by rw [hwl.lstrs (.inr (.inl rfl))]; exact hr, lst_done (.inr (.inl rfl)) hwl hi hx Pt.body ir, hx.mono fun t p hp => ⟨hp.1, by rw [hps]; exact hp.2⟩⟩
  rw [hvl]
  clear hps hndl hwel iel hwl hnd hi h
  go_enter Tryz.func196, Tryz.ntmps196
  go_wp2_with fail
  go_loopg [8] (lenV l) (fun m v wr => ∃ (i : Nat) (si : Rs), v = .int .i64 i ∧ i ≤ lenV l ∧ lenV l ≤ i + m ∧ si.vars.length + lets (dropL i (elems l)) ≤ 1000000 ∧ LpN H pb rb fb vb pc F its (elems l) s w i si wr)
  case atStart => exact ⟨0, s, rfl, Nat.zero_le _, by omega, hvb, L0⟩
  case round =>
    clear L0
    obtain ⟨i, si, rfl, hle, hm, hvi, LP⟩ := hrel
    have HLP : Hid _ := LP
    by_cases hlt : i < lenV l
    · have hltI : (i : Int) < (lenV l : Int) := by omega
      obtain ⟨b2, o2, a2, e2, r2, hd, hd2⟩ := dropL_lt i (elems l) (by rw [← lenV_elems]; exact hlt)
      have hAi := AllG.drop i _ hA
      rw [hd] at hAi hvi
      obtain ⟨h15, ⟨hE, hG⟩, _⟩ := hAi
      obtain ⟨gg, rfl, hcell⟩ := lst_cell (.inr (.inl rfl)) HWL.out HI1.out LP.fr Pt.body hvl hd (by
        cases e2 with
        | nil => exact absurd hE (by unfold Ws nilOk; omega)
        | node b o a l r =>
          have := stmt_tag hE
          exact ⟨b, o, a, l, r, rfl, by omega, by omega⟩)
      obtain ⟨u, p, hve⟩ := hE.val (.inr (.inr (.inl rfl)))
      have hie := LP.rest
      rw [hd] at hie
      have hl2 : lets (.node b2 o2 a2 e2 r2) = lets e2 + lets r2 := by rw [lets_node, if_neg (by omega)]; omega
      rw [hl2] at hvi
      have hcall := hG si wr (HN1.out.fr LP.rs LP.fr Pt.body) hie.1 (by omega)
      have hv3 := vars_le (F := F) (its := its) e2 si
      have HV3 : Hid ((rsT F its e2 si).vars.length + lets (dropL (i + 1) (elems l)) ≤ 1000000) := by rw [Hid, hd2]; omega
      rw [hve] at hcell hcall
      have HSTEP : Hid _ := fun w3 => HLP.out.step (w3 := w3) (.inr (.inl rfl)) HWE.out HND.out hd hd2
      clear hG hE hd hd2 hie LP hl2 hv3 hvi
      go_wp2_with fail
      refine hcall.mono ?_
      rintro e W3 ⟨rfl, h3, i3, x3⟩
      obtain ⟨m, rfl⟩ : ∃ m, gk = m + 1 := ⟨gk - 1, by omega⟩
      have fin : ∃ (i' : Nat) (si : Rs), Value.int .i64 ((i : Int) + 1) = .int .i64 i' ∧ i' ≤ lenV l ∧ lenV l ≤ i' + m ∧ si.vars.length + lets (dropL i' (elems l)) ≤ 1000000 ∧ LpN H pb rb fb vb pc F its (elems l) s w i' si W3 :=
        ⟨i + 1, _, by simp, by omega, by omega, HV3.out, HSTEP.out W3 h3 i3 x3⟩
      clear HSTEP HLP h3 i3 x3 HV3
      go_wp2
      go_roundg m
      case rel => exact fin
      case measure => omega
    · have hltI : ¬ (i : Int) < (lenV l : Int) := by omega
      have hi2 : i = lenL (elems l) := by rw [← lenV_elems]; omega
      have fin : PostN H pb rb fb vb pc F (Pt l) (reT F its l s) (rsT F its l s) w (.returned (.tuple #[])) wr := by
        subst hi2
        obtain ⟨e1, e2⟩ := LP.fin
        have hr := LP.rs
        rw [e1] at hr
        exact FIN.out wr LP.fr hr e2
      clear hi2 LP HLP FIN
      go_wp2
      go_end0
      exact fin

/-- How many parts a tree has. -/
def szT : Tr → Nat
  | .nil => 1
  | .node _ _ _ l r => szT l + szT r + 1
/-- Functions' parameters, of the items. -/
def ParOk (its : List Tr) : Prop := ∀ b o a l r, (BT.node b o a l r) ∈ its → a.tag = 17 → Ws 6 l ∧ lenV l ≤ 1000000
theorem fresh_parts {b o : Nat} {a : Nd} {l r : Tr} (h : Fresh H (.node b o a l r)) : Fresh H l ∧ Fresh H r := ⟨h.1, h.2.1⟩
/-- All parts of a function. -/
theorem parts_any (hpar : ParOk its) : ∀ (n : Nat) (t : Tr), szT t ≤ n → Fresh H t → (ps t).Nodup →
    (Ws 0 t → GN 195 H pb rb fb vb pc F its valT t) ∧ (Ws 1 t → GN 303 H pb rb fb vb pc F its valT t) ∧ (Ws 2 t → GS 250 H pb rb fb vb pc F its valT t) ∧ (Ws 4 t → GS 196 H pb rb fb vb pc F its valT t) ∧
    (Ws 13 t → AllG (fun e => Ws 0 e ∧ GN 195 H pb rb fb vb pc F its valT e) t) ∧ (Ws 14 t → AllG (fun e => Ws 2 e ∧ GS 250 H pb rb fb vb pc F its valT e) t) := by
  intro n
  induction n with
  | zero => intro t h; cases t <;> simp [szT] at h
  | succ n ih =>
    intro t hsz hF hnd
    cases t with
    | nil =>
      refine ⟨fun h => absurd h (by unfold Ws nilOk; omega), fun h => absurd h (by unfold Ws nilOk; omega), fun h => absurd h (by unfold Ws nilOk; omega), fun h => ?_, fun _ => trivial, fun _ => trivial⟩
      exact block_one h hnd trivial
    | node b o a l r =>
      have hl : szT l ≤ n ∧ szT r ≤ n := by simp only [szT] at hsz; omega
      obtain ⟨Fl, Fr_⟩ := fresh_parts hF
      have uq := uq_of hnd
      have IL := ih l hl.1 Fl uq.left
      have IR := ih r hl.2 Fr_ uq.right
      -- a list's elements lie one deeper
      have elemsOf : ∀ q, q = l ∨ q = r → Ws 3 q → AllG (fun e => Ws 0 e ∧ GN 195 H pb rb fb vb pc F its valT e) (elems q) := by
        intro q hq hw
        rcases hw.lst (.inl rfl) with rfl | ⟨b2, o2, a2, l2, rfl, h20, hw2⟩
        · trivial
        · have hsz2 : szT l2 ≤ n := by
            have : szT (BT.node b2 o2 a2 l2 .nil) ≤ n := by rcases hq with rfl | rfl <;> omega
            simp only [szT] at this; omega
          have hF2 : Fresh H l2 := by rcases hq with rfl | rfl; exact Fl.1; exact Fr_.1
          have hn2 : (ps l2).Nodup := by rcases hq with rfl | rfl; exact (uq_of uq.left).left; exact (uq_of uq.right).left
          exact (ih l2 hsz2 hF2 hn2).2.2.2.2.1 hw2
      refine ⟨fun hw => ?_, fun hw => ?_, fun hw => ?_, fun hw => ?_, fun hw => ?_, fun hw => ?_⟩
      · obtain ⟨hok, x, y, hsig, hwl, hwr⟩ := hw.parts
        refine expr_one hw hF hnd (fun hk => ?_) (fun hk => ?_) (fun hk => ?_)
        · have : x = 0 := by rcases hk with h | h | h | h <;> rw [h] at hsig <;> cases hsig <;> rfl
          subst this; exact ⟨hwl, IL.1 hwl⟩
        · have : y = 0 := by rw [hk] at hsig; cases hsig; rfl
          subst this; exact ⟨hwr, IR.1 hwr⟩
        · have : x = 3 := by rw [hk] at hsig; cases hsig; rfl
          subst this
          exact call_one hk hw hF hnd (by have := lenV_le (.inl rfl) hwl; omega) hpar (elemsOf l (.inl rfl) hwl)
      · obtain ⟨hok, x, y, hsig, hwl, hwr⟩ := hw.parts
        refine cond_one hw hnd (fun hk => ?_) (fun hk => ?_)
        · rw [hk] at hsig; cases hsig
          exact ⟨hwl, hwr, IL.1 hwl, IR.1 hwr⟩
        · rw [hk] at hsig; cases hsig
          exact ⟨hwl, hwr, IL.2.1 hwl, IR.2.1 hwr⟩
      · obtain ⟨hok, x, y, hsig, hwl, hwr⟩ := hw.parts
        refine stmt_one hw hF hnd (fun hk => ?_) (fun hk => ?_) (fun hk => ?_) (fun hk => ?_) (fun hk => ?_) (fun hk => ?_)
        · rw [hk] at hsig; cases hsig
          exact set_one hk hw hF hnd ⟨hwl, IL.1 hwl⟩
        · have : x = 0 := by rcases hk with h | h | h <;> rw [h] at hsig <;> cases hsig <;> rfl
          subst this; exact ⟨hwl, IL.1 hwl⟩
        · rw [hk] at hsig; cases hsig
          exact ⟨hwr, IR.1 hwr⟩
        · have : x = 1 := by rcases hk with h | h <;> rw [h] at hsig <;> cases hsig <;> rfl
          subst this; exact ⟨hwl, IL.2.1 hwl⟩
        · rw [hk] at hsig; cases hsig
          exact ⟨hwr, IR.2.2.2.1 hwr⟩
        · rw [hk] at hsig; cases hsig
          cases r with
          | nil => exact absurd hwr (by unfold Ws nilOk; omega)
          | node x y z p q =>
            obtain ⟨_, sp, sq, hs2, hwp, hwq⟩ := hwr.parts
            have hz : z.tag = 18 := by
              by_cases h : z.tag = 18
              · exact h
              · exfalso; simp [sig, h] at hs2
            rw [hz] at hs2
            cases hs2
            have hs : szT p ≤ n ∧ szT q ≤ n := by have := hl.2; simp only [szT] at this; omega
            have u2 := uq_of uq.right
            exact ⟨x, y, z, p, q, rfl, hz, hwp, hwq, (ih p hs.1 Fr_.1 u2.left).2.2.2.1 hwp, (ih q hs.2 Fr_.2.1 u2.right).2.2.2.1 hwq⟩
      · obtain ⟨b2, o2, a2, l2, e, h20, hw2⟩ := (hw.lst (.inr (.inl rfl))).resolve_left (by intro h; cases h)
        simp only [BT.node.injEq] at e
        obtain ⟨rfl, rfl, rfl, rfl, rfl⟩ := e
        exact block_one hw hnd (IL.2.2.2.2.2 hw2)
      · obtain ⟨h15, hwe, hwr⟩ := ws_rest (.inl rfl) hw
        exact ⟨h15, ⟨hwe, IL.1 hwe⟩, IR.2.2.2.2.1 hwr⟩
      · obtain ⟨h15, hwe, hwr⟩ := ws_rest (.inr (.inl rfl)) hw
        exact ⟨h15, ⟨hwe, IL.2.2.1 hwe⟩, IR.2.2.2.2.2 hwr⟩
end Go.Proofs.YtikffmloeifkpaaGreatDoor

/- Package names: a function's parameters; its conditions, plainly. -/
namespace Go.Proofs.YtikffmloeifkpaaGreatDoor
open Go.RowKit Go.Lib Go.Deep Go.ChangeMaps Go.MapKept

/-- One parameter. -/
def Rs.param (s : Rs) (x : ByteArray) (p : Int) : Rs := (s.newVar x p 4).addVar x
def nameOfT : Tr → ByteArray
  | .nil => ByteArray.mk #[]
  | .node _ _ a _ _ => a.name
def nposOfT : Tr → Int
  | .nil => 0
  | .node _ _ a _ _ => a.npos
def posOfT : Tr → Int
  | .nil => 0
  | .node _ _ a _ _ => a.pos
def setW (t : Tr) (n : Int) : Tr := match t with
  | .nil => .nil
  | .node b o a l r => .node b o { a with which := n } l r
def parR : Tr → Rs → Rs
  | .nil, s => s
  | .node _ _ _ e r, s => parR r (s.param (nameOfT e) (nposOfT e))
def parT : Tr → Rs → Tr
  | .nil, _ => .nil
  | .node b o a e r, s => .node b o a (setW e s.vars.length) (parT r (s.param (nameOfT e) (nposOfT e)))
/-- The conditions: behind the fourth there is a fault between the sides. -/
def Rs.fifth (s : Rs) (i : Nat) (p : Int) : Rs := if 4 ≤ i then s.fail 5 p else s
def sideL : Tr → Tr
  | .nil => .nil
  | .node _ _ _ l _ => l
def sideR : Tr → Tr
  | .nil => .nil
  | .node _ _ _ _ r => r
def whR (F : Ents) (its : List Tr) : Tr → Nat → Rs → Rs
  | .nil, _, s => s
  | .node _ _ _ e r, i, s => whR F its r (i + 1) (rsT F its (sideR e) ((rsT F its (sideL e) s).fifth i (posOfT e)))
def withSides (t l r : Tr) : Tr := match t with
  | .nil => .nil
  | .node b o a _ _ => .node b o a l r
def whT (F : Ents) (its : List Tr) : Tr → Nat → Rs → Tr
  | .nil, _, _ => .nil
  | .node b o a e r, i, s => .node b o a (withSides e (reT F its (sideL e) s) (reT F its (sideR e) ((rsT F its (sideL e) s).fifth i (posOfT e)))) (whT F its r (i + 1) (rsT F its (sideR e) ((rsT F its (sideL e) s).fifth i (posOfT e))))
/-- A list with other elements. -/
def withL (t l : Tr) : Tr := match t with
  | .nil => .nil
  | .node b o a _ r => .node b o a l r
/-- A function: the state, the tree. -/
def Rs.few (s : Rs) (a : Nd) : Rs := if 8 ≤ a.which then s.fail 5 a.npos else s
def Rs.clear (s : Rs) : Rs := ⟨[], s.code, s.pos⟩
def fnS (F : Ents) (its : List Tr) (a : Nd) (l p : Tr) (s : Rs) : Rs × Rs := (parR (elems l) (s.few a).clear, whR F its (elems p) 0 (parR (elems l) (s.few a).clear))
def fnR (F : Ents) (its : List Tr) : Tr → Rs → Rs
  | .node _ _ a l (.node _ _ _ p q), s => rsT F its q (fnS F its a l p s).2
  | _, s => s
def fnT (F : Ents) (its : List Tr) : Tr → Rs → Tr
  | .node b o a l (.node x y z p q), s =>
    .node b o { a with val := (rsT F its q (fnS F its a l p s).2).vars.length } (withL l (parT (elems l) (s.few a).clear)) (.node x y z (withL p (whT F its (elems p) 0 (fnS F its a l p s).1)) (reT F its q (fnS F its a l p s).2))
  | t, _ => t

theorem fail_vars_ (s : Rs) (c p : Int) : (s.fail c p).vars = s.vars := Rs.fail_vars s c p
theorem param_len (s : Rs) (x : ByteArray) (p : Int) : (s.param x p).vars.length ≤ s.vars.length + 1 := by
  have := addVar_len (s.newVar x p 4) x
  rw [newVar_vars] at this
  exact this

variable {H pb rb fb vb : Nat} {pc : Array Value} {F : Ents} {its : List Tr}
/-- A row of names stays from a place on. -/
theorem rowOk_from {cs cs' : Array Value} : ∀ (l : Tr) (o : Nat), Ws 16 l → (∀ j, o * 3 ≤ j → cs'[j]? = cs[j]?) → rowOk cs o l → rowOk cs' o l := by
  intro l
  induction l with
  | nil => intro o _ _ _; trivial
  | node b q a e r _ ih =>
    intro o hw hj hr
    obtain ⟨_, hwe, hwr⟩ := ws_rest (.inr (.inr (.inr (.inl rfl)))) hw
    refine ⟨?_, ih (o + 1) hwr (fun j hj2 => hj j (by omega)) hr.2⟩
    cases e with
    | nil => exact absurd hwe (by unfold Ws nilOk; simp)
    | node b2 o2 a2 x y =>
      obtain ⟨_, sx, sy, hsig, _⟩ := hwe.parts
      have h19 : a2.tag = 19 := by
        by_cases h : a2.tag = 19
        · exact h
        · exfalso; simp [sig, h] at hsig
      have h1 : (if a2.tag = 19 then Nam cs (o * 3) a2 else _) := hr.1
      show (if a2.tag = 19 then Nam cs' (o * 3) a2 else _)
      rw [if_pos h19] at h1 ⊢
      exact ⟨(hj _ (by omega)).trans h1.1, (hj _ (by omega)).trans h1.2.1, (hj _ (by omega)).trans h1.2.2⟩
/-- Parameters have no blocks of their own. -/
theorem isT_par (w : World) : ∀ (l : Tr) (s : Rs), Ws 16 l → IsT w (parT l s) := by
  intro l
  induction l with
  | nil => intro s _; trivial
  | node b o a e r _ ih =>
    intro s hw
    obtain ⟨h15, hwe, hwr⟩ := ws_rest (.inr (.inr (.inr (.inl rfl)))) hw
    refine ⟨?_, ih _ hwr, by unfold Own; rw [h15]; trivial⟩
    cases e with
    | nil => trivial
    | node b2 o2 a2 x y =>
      obtain ⟨_, sx, sy, hsig, hx, hy⟩ := hwe.parts
      have h19 : a2.tag = 19 := by
        by_cases h : a2.tag = 19
        · exact h
        · exfalso; simp [sig, h] at hsig
      rw [h19] at hsig
      cases hsig
      obtain rfl := hx.nil_of
      obtain rfl := hy.nil_of
      refine ⟨trivial, trivial, ?_⟩
      unfold Own
      dsimp only
      rw [h19]
      trivial
theorem parT_shape : ∀ (l : Tr) (s : Rs), lenL (parT l s) = lenL l ∧ rowTyp (parT l s) = rowTyp l ∧ (parT l s = .nil ↔ l = .nil) ∧ ps (parT l s) = ps l := by
  intro l
  induction l with
  | nil => intro s; exact ⟨rfl, rfl, Iff.rfl, rfl⟩
  | node b o a e r _ ih =>
    intro s
    obtain ⟨h1, _, _, h4⟩ := ih (s.param (nameOfT e) (nposOfT e))
    refine ⟨by simp only [parT, lenL, h1], ?_, by simp [parT], ?_⟩
    · cases e <;> rfl
    · have he : ps (setW e s.vars.length) = ps e := by cases e <;> rfl
      simp only [parT, ps, h4, he]

/-- The places of names. -/
def PN (L : Tr) : TypeId → Int → Prop := fun ty p => ty = 100 ∧ p ∈ ps L
theorem PN.inT {L : Tr} (t : TypeId) (p : Int) (h : PN L t p) : inTyp t := by rw [h.1]; exact ⟨by decide, by decide, by decide⟩
theorem PN.pos {L : Tr} (t : TypeId) (p : Int) (h : PN L t p) : posTyp t := by rw [h.1]; simp [posTyp]
/-- The parameters gone through up to the i-th; their row lies in block g. -/
structure LpP (H pb rb fb vb : Nat) (pc : Array Value) (F : Ents) (g : Nat) (L : Tr) (S1 : Rs) (W1 : World) (i : Nat) (si : Rs) (wr : World) : Prop where
  rs : RsW H pb rb fb vb pc F si wr
  fr : Fr H (PN L) W1 wr
  row : L ≠ .nil → ∃ cs, wr.heap[g]? = some (.cells cs 100 (0, 0)) ∧ rowOk cs i (dropL i L) ∧ (∃ p0 : Int, cs[1]? = some (.int .i64 p0) ∧ p0 ∈ ps L) ∧ (∀ cs2 : Array Value, (∀ j, j < i * 3 → cs2[j]? = cs[j]?) → rowOk cs2 i (parT (dropL i L) si) → rowOk cs2 0 (parT L S1))
  run : parR (dropL i L) si = parR L S1
  few : si.vars.length ≤ i
variable {g : Nat} {L : Tr} {S1 si : Rs} {W1 wr w2 w3 : World} {i : Nat}
theorem name_head {b o : Nat} {a : Nd} {e r : Tr} {cs : Array Value} (hw : Ws 16 (.node b o a e r)) (hr : rowOk cs 0 (.node b o a e r)) : ∃ p0 : Int, cs[1]? = some (.int .i64 p0) ∧ p0 ∈ ps (.node b o a e r) := by
  obtain ⟨h15, hwe, hwr⟩ := ws_rest (.inr (.inr (.inr (.inl rfl)))) hw
  cases e with
  | nil => exact absurd hwe (by unfold Ws nilOk; simp)
  | node b2 o2 a2 x y =>
    obtain ⟨_, sx, sy, hsig, _⟩ := hwe.parts
    have h19 : a2.tag = 19 := by
      by_cases h : a2.tag = 19
      · exact h
      · exfalso; simp [sig, h] at hsig
    have h1 : (if a2.tag = 19 then Nam cs (0 * 3) a2 else _) := hr.1
    rw [if_pos h19] at h1
    exact ⟨a2.npos, h1.2.1, ps_left (po_ps (by unfold po; rw [h19]; simp [named]))⟩
theorem LpP.start (h : RsW H pb rb fb vb pc F S1 W1) (hv : S1.vars = []) (hw : Ws 16 L) (hrow : L ≠ .nil → ∃ cs, W1.heap[g]? = some (.cells cs 100 (0, 0)) ∧ rowOk cs 0 L) : LpP H pb rb fb vb pc F g L S1 W1 0 S1 W1 := by
  refine ⟨h, Fr.refl _ _ _, fun hne => ?_, rfl, by rw [hv]; exact Nat.le_refl _⟩
  obtain ⟨cs, h1, h2⟩ := hrow hne
  cases L with
  | nil => exact absurd rfl hne
  | node b o a e r => exact ⟨cs, h1, h2, name_head hw h2, fun _ _ h => h⟩
/-- The i-th name, where it lies. -/
theorem LpP.name (h : LpP H pb rb fb vb pc F g L S1 W1 i si wr) (hg : H ≤ g) (hw : Ws 16 L) {b o : Nat} {a : Nd} {e r : Tr} (hd : dropL i L = .node b o a e r) : NamW H (PN L) wr g (i * 3) (nameOfT e) (nposOfT e) := by
  have hne : L ≠ .nil := by intro hx; rw [hx] at hd; cases i <;> cases hd
  obtain ⟨cs, h1, h2, ⟨p0, h3, h4⟩, _⟩ := h.row hne
  have hwd := ws_drop (.inr (.inr (.inr (.inl rfl)))) i _ hw
  rw [hd] at h2 hwd
  obtain ⟨h15, hwe, hwr⟩ := ws_rest (.inr (.inr (.inr (.inl rfl)))) hwd
  cases e with
  | nil => exact absurd hwe (by unfold Ws nilOk; simp)
  | node b2 o2 a2 x y =>
    obtain ⟨_, sx, sy, hsig, _⟩ := hwe.parts
    have h19 : a2.tag = 19 := by
      by_cases h : a2.tag = 19
      · exact h
      · exfalso; simp [sig, h] at hsig
    have hn : (if a2.tag = 19 then Nam cs (i * 3) a2 else _) := h2.1
    rw [if_pos h19] at hn
    exact ⟨⟨cs, _, a2.which, p0, h1, hn.1, hn.2.1, hn.2.2, h3, ⟨rfl, h4⟩, by simp [treeTyp, treeTyp0]⟩, hg⟩
theorem LpP.step (h : LpP H pb rb fb vb pc F g L S1 W1 i si wr) (hw : Ws 16 L) {b o : Nat} {a : Nd} {e r : Tr} (hd : dropL i L = .node b o a e r) (hd2 : dropL (i + 1) L = r)
    (x2 : Fr H F0 wr w2) (h3 : RsW H pb rb fb vb pc F (si.param (nameOfT e) (nposOfT e)) w3) (x3 : Fr H (PN L) w2 w3) (hwr3 : Wr g (i * 3 + 2) (fun _ => si.vars.length) w2 w3) : LpP H pb rb fb vb pc F g L S1 W1 (i + 1) (si.param (nameOfT e) (nposOfT e)) w3 := by
  have hne : L ≠ .nil := by intro hx; rw [hx] at hd; cases i <;> cases hd
  refine ⟨h3, (h.fr.trans (x2.mono F0.to)).trans x3, fun _ => ?_, ?_, ?_⟩
  · obtain ⟨cs, k1, k2, ⟨p0, k3, k4⟩, k5⟩ := h.row hne
    have hwd := ws_drop (.inr (.inr (.inr (.inl rfl)))) i _ hw
    rw [hd] at k2 hwd k5
    obtain ⟨h15, hwe, hwr⟩ := ws_rest (.inr (.inr (.inr (.inl rfl)))) hwd
    cases e with
    | nil => exact absurd hwe (by unfold Ws nilOk; simp)
    | node b2 o2 a2 x y =>
      obtain ⟨_, sx, sy, hsig, _⟩ := hwe.parts
      have h19 : a2.tag = 19 := by
        by_cases h : a2.tag = 19
        · exact h
        · exfalso; simp [sig, h] at hsig
      have hn : (if a2.tag = 19 then Nam cs (i * 3) a2 else _) := k2.1
      rw [if_pos h19] at hn
      have q1 := x2.keep0 (by simp [treeTyp, treeTyp0]) k1
      have q2 := hwr3 cs _ _ q1 hn.2.2
      refine ⟨_, q2, ?_, ⟨p0, by rw [Array.getElem?_setIfInBounds_ne (by omega)]; exact k3, k4⟩, fun cs2 hj hr => ?_⟩
      · rw [hd2]
        exact rowOk_from r (i + 1) hwr (fun j hj => Array.getElem?_setIfInBounds_ne (by omega)) k2.2
      · rw [hd2] at hr
        refine k5 cs2 (fun j hj2 => ?_) ⟨?_, hr⟩
        · rw [hj j (by omega), Array.getElem?_setIfInBounds_ne (by omega)]
        · show (if a2.tag = 19 then Nam cs2 (i * 3) { a2 with which := (si.vars.length : Int) } else _)
          rw [if_pos h19]
          refine ⟨?_, ?_, ?_⟩
          · rw [hj _ (by omega), Array.getElem?_setIfInBounds_ne (by omega)]; exact hn.1
          · rw [hj _ (by omega), Array.getElem?_setIfInBounds_ne (by omega)]; exact hn.2.1
          · rw [hj _ (by omega), Array.getElem?_setIfInBounds_self_of_lt (Array.getElem?_eq_some_iff.1 hn.2.2).1]
  · rw [hd2, ← h.run, hd]; rfl
  · have := param_len si (nameOfT e) (nposOfT e)
    have := h.few
    omega
theorem LpP.fin (h : LpP H pb rb fb vb pc F g L S1 W1 (lenL L) si wr) : si = parR L S1 ∧ (L ≠ .nil → At wr g 100 fun cs => rowOk cs 0 (parT L S1)) := by
  obtain ⟨_, _, row, run, _⟩ := h
  rw [dropL_end] at run row
  refine ⟨run, fun hne => ?_⟩
  obtain ⟨cs, k1, _, _, k5⟩ := row hne
  exact ⟨cs, k1, k5 cs (fun _ _ => rfl) trivial⟩
theorem fresh_drop : ∀ (i : Nat) (l : Tr), Fresh H l → Fresh H (dropL i l) := by
  intro i
  induction i with
  | zero => intro l h; exact h
  | succ n ih =>
    intro l h
    cases l with
    | nil => trivial
    | node b o a e r => exact ih r h.2.1
theorem fresh_elems {t : Tr} (h : Fresh H t) : Fresh H (elems t) := by
  cases t with
  | nil => trivial
  | node => exact h.1
end Go.Proofs.YtikffmloeifkpaaGreatDoor
