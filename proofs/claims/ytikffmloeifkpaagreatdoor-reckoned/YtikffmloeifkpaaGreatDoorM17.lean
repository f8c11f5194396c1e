/- The program's contracts, part 17: each says what a function of the program does, for every argument that its premises name. -/
import Derived.Test.YtikffmloeifkpaaGreatDoorM16
/- Package names: Resolve, plainly. -/
namespace Go.Proofs.YtikffmloeifkpaaGreatDoor
open Go.RowKit Go.Lib Go.Deep Go.ChangeMaps Go.MapKept
variable {H pb rb fb vb : Nat} {pc : Array Value} {F : Ents} {its : List Tr}

def toL : Tr → List Tr
  | .nil => []
  | .node _ _ _ e r => e :: toL r
def itsR (F : Ents) (its : List Tr) : Tr → Nat → Rs → Rs
  | .nil, _, s => s
  | .node _ _ _ e r, i, s => itsR F its r (i + 1) (itR F its e i s)
def itsT (F : Ents) (its : List Tr) : Tr → Nat → Rs → Tr
  | .nil, _, _ => .nil
  | .node b o a e r, i, s => .node b o a (itT F its e i s) (itsT F its r (i + 1) (itR F its e i s))
def mainB : ByteArray := ByteArray.mk #[109, 97, 105, 110]
def rs0 : Rs := ⟨[], 0, 0⟩
def itsOf (t : Tr) : List Tr := toL (gaT (elems t) 0 0)
def firstOf (t : Tr) : Ents := gaF (elems t) 0 []
/-- What Resolve answers, of a tree and a text's length; the tree; which function is main. -/
def resI (t : Tr) : Rs := itsR (firstOf t) (itsOf t) (gaT (elems t) 0 0) 0 rs0
def resS (t : Tr) (n : Int) : Rs := if (funcOf (firstOf t) (itsOf t) mainB).isSome then resI t else (resI t).fail 4 n
def resT (t : Tr) : Tr := withL t (itsT (firstOf t) (itsOf t) (gaT (elems t) 0 0) 0 rs0)
def resM (t : Tr) : Int := whichT ((funcOf (firstOf t) (itsOf t) mainB).getD .nil)

theorem toL_len (t : Tr) : (toL t).length = lenL t := by
  induction t with
  | nil => rfl
  | node b o a e r _ ih => simp only [toL, lenL, List.length_cons, ih]
theorem toL_get : ∀ (t : Tr) (i : Nat) (e : Tr), (toL t)[i]? = some e → ∃ b o a r, dropL i t = .node b o a e r := by
  intro t
  induction t with
  | nil => intro i e h; simp [toL] at h
  | node b o a e0 r _ ih =>
    intro i e h
    cases i with
    | zero => simp [toL] at h; subst h; exact ⟨b, o, a, r, rfl⟩
    | succ i => exact ih i e (by simpa [toL] using h)
theorem toL_mem : ∀ (t e : Tr), e ∈ toL t → ∃ i : Nat, (toL t)[i]? = some e := fun t e h => by
  obtain ⟨i, hi, he⟩ := List.getElem_of_mem h
  exact ⟨i, by rw [List.getElem?_eq_getElem hi, he]⟩

/-! Trees' kinds and places, behind names. -/
theorem ws_setW {s : Nat} {e : Tr} (h : Ws s e) (n : Int) : Ws s (setW e n) := by
  cases e with
  | nil => exact h
  | node b o a l r =>
    obtain ⟨hok, x, y, hsig, hl, hr⟩ := h.parts
    exact Ws.of20 (x := x) (y := y) hsig (hok.sh rfl rfl rfl (fun _ => rfl)) (fun e => h.len e) hl hr
theorem ws_parT : ∀ (l : Tr) (s : Rs), Ws 16 l → Ws 16 (parT l s) := by
  intro l
  induction l with
  | nil => intro s h; exact h
  | node b o a e r _ ih =>
    intro s h
    obtain ⟨hok, _⟩ := h.parts
    obtain ⟨h15, hwe, hwr⟩ := ws_rest (.inr (.inr (.inr (.inl rfl)))) h
    exact Ws.of20 (x := 22) (y := 16) (by rw [h15]; rfl) hok (fun e => by omega) (ws_setW hwe _) (ih _ hwr)
theorem ws_withL {s : Nat} (hs : s = 3 ∨ s = 4 ∨ s = 5 ∨ s = 6 ∨ s = 8) {t L : Tr} (h : Ws s t) (hl : Ws (10 + s) L) (hlen : lenL L = lenL (elems t)) : Ws s (withL t L) := by
  rcases h.lst hs with rfl | ⟨b, o, a, l, rfl, ht, _⟩
  · exact h
  · obtain ⟨hok, x, y, hsig, hx, hy⟩ := h.parts
    refine Ws.of20 (x := 10 + s) (y := 99) ?_ hok (fun e => ?_) hl Ws.nil99
    · rw [ht]; rcases hs with rfl | rfl | rfl | rfl | rfl <;> rfl
    · have := h.len e
      rw [hlen]
      exact this
theorem ps_withL {s : Nat} (hs : s = 3 ∨ s = 4 ∨ s = 5 ∨ s = 6 ∨ s = 8) {t L : Tr} (h : Ws s t) (hl : ps L = ps (elems t)) : ps (withL t L) = ps t := by
  rcases h.lst hs with rfl | ⟨b, o, a, l, rfl, ht, _⟩
  · rfl
  · have hx : ps L = ps l := hl
    show ps (.node b o a L .nil) = ps (.node b o a l .nil)
    simp only [ps, hx]
theorem itT_kind {e : Tr} (i : Nat) (s : Rs) (h : Ws 7 e) : Ws 7 (itT F its e i s) ∧ ps (itT F its e i s) = ps e ∧ valT (itT F its e i s) = valT e ∧ ∃ b o a l r a' l' r', e = .node b o a l r ∧ itT F its e i s = .node b o a' l' r' ∧ a'.tag = a.tag ∧ (a.tag = 16 ∨ a.tag = 17) := by
  obtain ⟨b, o, a, l, r, rfl, ht⟩ := item_of h
  rcases ht with ht | ht
  · have e1 : itT F its (.node b o a l r) i s = .node b o a l r := if_pos ht
    rw [e1]
    exact ⟨h, rfl, rfl, b, o, a, l, r, a, l, r, rfl, rfl, rfl, .inl ht⟩
  · obtain ⟨hwl, x, y, z, p, q, rfl, hz, hwp, hwq⟩ := func_of h ht
    have e1 : itT F its (.node b o a l (.node x y z p q)) i s = fnT F its (.node b o a l (.node x y z p q)) (s.twice F a i) := if_neg (by omega)
    rw [e1]
    generalize s.twice F a i = s
    have hL := hwl.elems (.inr (.inr (.inr (.inl rfl))))
    have hP := hwp.elems (.inr (.inr (.inl rfl)))
    obtain ⟨hok, _⟩ := h.parts
    obtain ⟨_, _, _, _, _, hr⟩ := h.parts
    obtain ⟨hl1, _, _, hl4⟩ := parT_shape (elems l) (s.few a).clear
    have w1 : Ws 6 (withL l (parT (elems l) (s.few a).clear)) := ws_withL (.inr (.inr (.inr (.inl rfl)))) hwl (ws_parT _ _ hL) hl1
    have w2 : Ws 5 (withL p (whT F its (elems p) 0 (fnS F its a l p s).1)) := ws_withL (.inr (.inr (.inl rfl))) hwp ((whT_sh _ _ _).ws hP) (whT_sh _ _ _).lenL
    have w3 : Ws 4 (reT F its q (fnS F its a l p s).2) := (reT_sh _ _ _ _).ws hwq
    have hokz : OkA z := by
      have h7 := h
      obtain ⟨_, sx, sy, hsig, _, hr⟩ := h7.parts
      exact hr.parts.1
    refine ⟨?_, ?_, ?_, b, o, a, l, _, _, _, _, rfl, rfl, rfl, .inr ht⟩
    · refine Ws.of (x := 6) (y := 23) (by show sig 7 a.tag = _; rw [ht]; rfl) (hok.sh rfl rfl rfl (fun e => absurd ht e)) w1 (Ws.of (x := 5) (y := 4) (by rw [hz]; rfl) hokz w2 w3 (by omega)) (by show a.tag ≠ 20; omega)
    · show ps (.node b o { a with val := _ } (withL l _) (.node x y z (withL p _) (reT F its q _))) = _
      simp only [ps, ps_withL (.inr (.inr (.inr (.inl rfl)))) hwl hl4, ps_withL (.inr (.inr (.inl rfl))) hwp (whT_sh _ _ _).ps, (reT_sh _ _ _ _).ps]
    · show (if a.tag = 20 then _ else _) = (if a.tag = 20 then _ else _)
      rw [if_neg (by omega), if_neg (by omega)]
theorem itsT_shape : ∀ (L : Tr) (i : Nat) (s : Rs), Ws 18 L → Ws 18 (itsT F its L i s) ∧ ps (itsT F its L i s) = ps L ∧ lenL (itsT F its L i s) = lenL L ∧ rowTyp (itsT F its L i s) = rowTyp L ∧ (itsT F its L i s = .nil ↔ L = .nil) := by
  intro L
  induction L with
  | nil => intro i s h; exact ⟨h, rfl, rfl, rfl, Iff.rfl⟩
  | node b o a e r _ ih =>
    intro i s h
    obtain ⟨hok, _⟩ := h.parts
    obtain ⟨h15, hwe, hwr⟩ := ws_rest (.inr (.inr (.inr (.inr rfl)))) h
    obtain ⟨k1, k2, k3, b2, o2, a2, l2, r2, a3, l3, r3, e1, e2, e3, e4⟩ := itT_kind (F := F) (its := its) i s hwe
    obtain ⟨j1, j2, j3, _, _⟩ := ih (i + 1) (itR F its e i s) hwr
    refine ⟨Ws.of20 (x := 7) (y := 18) (by rw [h15]; rfl) hok (fun e => by omega) k1 j1, ?_, ?_, ?_, by simp [itsT]⟩
    · simp only [itsT, ps, k2, j2]
    · simp only [itsT, lenL, j3]
    · show rowTyp (.node b o a (itT F its e i s) _) = rowTyp (.node b o a e r)
      rw [e2, e1]
      unfold rowTyp
      dsimp only
      rw [e3]
theorem itsT_row {cs : Array Value} : ∀ (L : Tr) (o i : Nat) (s : Rs), Ws 18 L → rowOk cs o L → rowOk cs o (itsT F its L i s) := by
  intro L
  induction L with
  | nil => intro _ _ _ _ _; trivial
  | node b o0 a e r _ ih =>
    intro o i s h hr
    obtain ⟨h15, hwe, hwr⟩ := ws_rest (.inr (.inr (.inr (.inr rfl)))) h
    obtain ⟨k1, k2, k3, b2, o2, a2, l2, r2, a3, l3, r3, e1, e2, e3, e4⟩ := itT_kind (F := F) (its := its) i s hwe
    refine ⟨?_, ih (o + 1) (i + 1) _ hwr hr.2⟩
    have h1 := hr.1
    rw [e2] at k3 ⊢
    rw [e1] at h1 k3
    replace h1 : (if a2.tag = 19 then Nam cs (o * 3) a2 else if a2.tag = 7 then cs[o]? = some (ptrT (.node b2 o2 a2 l2 r2)) else cs[o]? = some (valT (.node b2 o2 a2 l2 r2))) := h1
    show (if a3.tag = 19 then Nam cs (o * 3) a3 else if a3.tag = 7 then cs[o]? = some (ptrT (.node b2 o2 a3 l3 r3)) else cs[o]? = some (valT (.node b2 o2 a3 l3 r3)))
    rw [if_neg (by omega), if_neg (by omega)] at h1 ⊢
    rw [k3]
    exact h1

/-- The items gone through up to the i-th. -/
structure LpI (H pb rb fb vb : Nat) (pc : Array Value) (F : Ents) (its : List Tr) (L : Tr) (S1 : Rs) (W1 : World) (i : Nat) (si : Rs) (wr : World) : Prop where
  ns : NsW H pb rb fb vb pc F its si wr
  fr : Fr H (PI L) W1 wr
  rest : IsT wr (dropL i L)
  wand : ∀ w2, Fr H (PI (dropL i L)) wr w2 → IsT w2 (itsT F its (dropL i L) i si) → IsT w2 (itsT F its L 0 S1)
  run : itsR F its (dropL i L) i si = itsR F its L 0 S1
variable {L : Tr} {S1 si : Rs} {W1 wr w3 : World} {i : Nat}
theorem PI.pos {L : Tr} (t : TypeId) (p : Int) (h : PI L t p) : posTyp t := h.1
theorem LpI.start (h : NsW H pb rb fb vb pc F its S1 W1) (hi : IsT W1 L) : LpI H pb rb fb vb pc F its L S1 W1 0 S1 W1 := ⟨h, Fr.refl _ _ _, hi, fun _ _ h => h, rfl⟩
theorem LpI.step (h : LpI H pb rb fb vb pc F its L S1 W1 i si wr) (hw : Ws 18 L) (hnd : (ps L).Nodup) {b o : Nat} {a : Nd} {e r : Tr} (hd : dropL i L = .node b o a e r) (hd2 : dropL (i + 1) L = r)
    (h3 : NsW H pb rb fb vb pc F its (itR F its e i si) w3) (i3 : IsT w3 (itT F its e i si)) (x3 : Fr H (PI e) wr w3) : LpI H pb rb fb vb pc F its L S1 W1 (i + 1) (itR F its e i si) w3 := by
  have hwd := ws_drop (.inr (.inr (.inr (.inr rfl)))) i _ hw
  have uq := nd_drop i _ hnd
  have hps := ps_drop i L
  obtain ⟨_, hfr, rest, wand, run⟩ := h
  rw [hd] at hwd uq hps rest wand run
  obtain ⟨h15, hwe, hwr⟩ := ws_rest (.inr (.inr (.inr (.inr rfl)))) hwd
  have uq := uq_of uq
  obtain ⟨k1, k2, _, _⟩ := itT_kind (F := F) (its := its) i si hwe
  refine ⟨h3, hfr.trans (x3.mono fun t p hp => ⟨hp.1, hps p (ps_left hp.2)⟩), ?_, fun w2 hx hi => ?_, ?_⟩
  · rw [hd2]
    exact IsT.fr x3 PI.pos hwr rest.2.1 (fun p hp ty hq => uq.apart p hq.2 hp)
  · rw [hd2] at hx hi
    refine wand w2 ((x3.mono fun t p hp => ⟨hp.1, ps_left hp.2⟩).trans (hx.mono fun t p hp => ⟨hp.1, ps_right hp.2⟩)) ⟨?_, hi, by unfold Own; rw [h15]; trivial⟩
    exact IsT.fr hx PI.pos k1 i3 (fun p hp ty hq => by rw [k2] at hp; exact uq.apart p hp hq.2)
  · rw [hd2]; exact run
theorem LpI.fin (h : LpI H pb rb fb vb pc F its L S1 W1 (lenL L) si wr) : si = itsR F its L 0 S1 ∧ IsT wr (itsT F its L 0 S1) := by
  obtain ⟨_, _, _, wand, run⟩ := h
  rw [dropL_end] at wand run
  exact ⟨run, wand wr (Fr.refl _ _ _) trivial⟩

/-! Where gather ends. -/
theorem gaF_ok : ∀ (L : Tr) (i : Nat) (F : Ents), (∀ x k, look x F = some k → 0 ≤ k ∧ k < (i : Int)) → ∀ x k, look x (gaF L i F) = some k → 0 ≤ k ∧ k < ((i + lenL L : Nat) : Int) := by
  intro L
  induction L with
  | nil => intro i F h x k hk; have := h x k hk; simp [lenL]; exact this
  | node b o a e r _ ih =>
    intro i F h x k hk
    have h2 := ih (i + 1) (if (look (nameOfT e) F).isSome then F else put (nameOfT e) i F) (fun x k hk => ?_) x k hk
    · simp only [lenL]; omega
    · split at hk
      · have := h x k hk; omega
      · by_cases hx : x = nameOfT e
        · subst hx
          rw [look_put_same] at hk
          simp only [Option.some.injEq] at hk
          omega
        · rw [look_put_other hx] at hk
          have := h x k hk; omega
theorem gaT_kind {L : Tr} (h : Ws 18 L) : Ws 18 (gaT L 0 0) := (gaT_sh L 0 0 h).ws h
theorem parOk_of {t : Tr} (h : Ws 18 t) : ParOk (toL t) := by
  intro b o a l r hm ht
  obtain ⟨i, hi⟩ := toL_mem _ _ hm
  obtain ⟨b1, o1, a1, r1, hd⟩ := toL_get t i _ hi
  have hwd := ws_drop (.inr (.inr (.inr (.inr rfl)))) i _ h
  rw [hd] at hwd
  obtain ⟨_, hwe, _⟩ := ws_rest (.inr (.inr (.inr (.inr rfl)))) hwd
  obtain ⟨hwl, _⟩ := func_of hwe ht
  exact ⟨hwl, by have := lenV_le (.inr (.inr (.inr (.inl rfl)))) hwl; omega⟩
end Go.Proofs.YtikffmloeifkpaaGreatDoor

/- Package names: Resolve. -/
namespace Go.Proofs.YtikffmloeifkpaaGreatDoor
open Go.RowKit Go.Lib Go.Deep Go.ChangeMaps Go.MapKept
variable {H pb : Nat}

/-- Where gather ends, all that names works in begins. -/
theorem ns_of {rb fb vb : Nat} {it : Value} {w0 wr : World} {t : Tr} {nA nF : Nat} {vA vF : Value} {xA xF : List Value} (hw : Ws 8 t) (hit : valT t = it) (hi0 : IsT w0 t) (h : GaW H pb rb fb vb it w0 (elems t) (lenL (elems t)) nA nF (firstOf t) vA vF xA xF wr) :
    NsW H pb rb fb vb (prgC it vA vF 0 (.slice none 0 0)) (firstOf t) (itsOf t) rs0 wr ∧ IsT wr (gaT (elems t) 0 0) := by
  have hL := hw.elems (.inr (.inr (.inr (.inr rfl))))
  obtain ⟨hT, _, _⟩ := h.fin
  have hsh := gaT_sh (elems t) 0 0 hL
  have hlen : (itsOf t).length = lenL (elems t) := by unfold itsOf; rw [toL_len, hsh.lenL]
  refine ⟨⟨⟨h.blk, h.prog, h.first, h.vars, h.ge.1, h.ge.2.2.2, h.ne⟩, ⟨fun hp => ?_, fun e he => ?_, ?_⟩, ?_⟩, hT⟩
  · rcases hw.lst (.inr (.inr (.inr (.inr rfl)))) with rfl | ⟨b0, o0, a0, l0, rfl, ht, hl0⟩
    · rw [hlen] at hp; exact absurd hp (Nat.lt_irrefl 0)
    · have hv2 : valT (.node b0 o0 a0 l0 .nil) = .slice (some ⟨b0, 0, none⟩) (lenL l0) o0 := if_pos ht
      have ho := hi0.2.2
      have hne : l0 ≠ .nil := (own_tag ho (n := 20) ht).1
      have hpo : po a0 = [] := by unfold po; rw [ht]; rfl
      have o2 : Own wr b0 a0 l0 .nil := OwnN.fw h.fr PA.pos ho (fun p hp => by rw [hpo] at hp; cases hp) (fun e => ⟨hw.list e hne, fun p _ hq => absurd hq (PA.noName p)⟩)
      obtain ⟨_, cs, hc, hr⟩ := own_tag o2 (n := 20) ht
      have hty : rowTyp l0 = 151 := by
        cases l0 with
        | nil => exact absurd rfl hne
        | node b2 o2 a2 e r =>
          obtain ⟨_, hwe, _⟩ := ws_rest (.inr (.inr (.inr (.inr rfl)))) hl0
          obtain ⟨b3, o3, a3, x, y, rfl, hk⟩ := item_of hwe
          show (if a3.tag = 19 then _ else if a3.tag = 7 then _ else if a3.tag < 7 then _ else if a3.tag < 15 then _ else _) = _
          rw [if_neg (by omega), if_neg (by omega), if_neg (by omega), if_neg (by omega)]
      rw [hty] at hc
      refine ⟨b0, o0, cs, ?_, hc, fun i e he => ?_⟩
      · show some it = _
        rw [← hit, hv2, hlen]; rfl
      · obtain ⟨b1, o1, a1, r1, hd⟩ := toL_get (gaT l0 0 0) i e he
        have hr2 := rowOk_drop i 0 _ ((gaT_sh l0 0 0 hl0).rowOk hr)
        rw [hd, Nat.zero_add] at hr2
        have hwd := ws_drop (.inr (.inr (.inr (.inr rfl)))) i _ (gaT_kind hl0)
        rw [hd] at hwd
        obtain ⟨_, hwe, _⟩ := ws_rest (.inr (.inr (.inr (.inr rfl)))) hwd
        obtain ⟨b3, o3, a3, x, y, rfl, hk⟩ := item_of hwe
        have h1 : (if a3.tag = 19 then Nam cs (i * 3) a3 else if a3.tag = 7 then _ else cs[i]? = some (valT (.node b3 o3 a3 x y))) := hr2.1
        rw [if_neg (by omega), if_neg (by omega)] at h1
        exact h1
  · obtain ⟨i, hi⟩ := toL_mem _ _ he
    obtain ⟨b1, o1, a1, r1, hd⟩ := toL_get _ i e hi
    have h2 := isT_drop i _ hT
    have hwd := ws_drop (.inr (.inr (.inr (.inr rfl)))) i _ (gaT_kind hL)
    rw [hd] at hwd h2
    obtain ⟨_, hwe, _⟩ := ws_rest (.inr (.inr (.inr (.inr rfl)))) hwd
    obtain ⟨b3, o3, a3, x, y, rfl, hk⟩ := item_of hwe
    refine ⟨b3, o3, a3, x, y, rfl, ?_⟩
    rcases hk with hk | hk
    · obtain ⟨cs, hc, hn, _⟩ := own_tag h2.1.2.2 (n := 16) hk
      exact .inl ⟨hk, cs, hc, hn⟩
    · obtain ⟨cs, hc, hn, h3, _⟩ := own_tag h2.1.2.2 (n := 17) hk
      exact .inr ⟨hk, cs, hc, hn, h3⟩
  · rw [hlen]
    have := lenV_le (.inr (.inr (.inr (.inr rfl)))) hw
    rw [lenV_elems] at this
    omega
  · intro x i hx
    have := gaF_ok (elems t) 0 [] (fun x k h => by cases h) x i hx
    rw [hlen]
    simpa using this

/-- What Resolve leaves. -/
def PostR (H pb : Nat) (t : Tr) (n : Int) (w : World) : Ending → World → Prop := fun e w' => e = .returned (.agg #[.int .i64 (resS t n).code, .int .i64 (resS t n).pos]) ∧ w.heap.size ≤ w'.heap.size ∧ w'.os = w.os ∧ w'.tape = w.tape ∧ w'.output = w.output ∧ (∀ k, k < H → w'.heap[k]? = w.heap[k]?) ∧
  ((resS t n).code = 0 → ∃ nA nF vA vF, w'.heap[pb]? = some (.cells (prgC (valT t) vA vF (resM t) (.slice none 0 0)) 111 (0, 0)) ∧ w'.ownsRow H 192 1 vA nA (ptrs 16 (elems t)) ∧ w'.ownsRow H 106 1 vF nF (ptrs 17 (elems t)) ∧ IsT w' (resT t))

/-- A store into a block that holds no part of a tree. -/
theorem At.off {w w' : World} {b k : Nat} {t ty : TypeId} {Q : Array Value → Prop} {c : Array Value} (h : At w b t Q) (hk : w.heap[k]? = some (.cells c ty (0, 0))) (hne : t ≠ ty) (hw : ∀ i, i < w.heap.size → i ≠ k → w'.heap[i]? = w.heap[i]?) : At w' b t Q := by
  obtain ⟨cs, hc, hq⟩ := h
  exact ⟨cs, (hw b (Array.getElem?_eq_some_iff.1 hc).1 (ne_typ hc hk hne)).trans hc, hq⟩
def offTyp (ty : TypeId) : Prop := ty = 37 ∨ ty = 111
theorem rowTyp_off (l : Tr) {ty : TypeId} (h : offTyp ty) : rowTyp l ≠ ty := by
  rcases h with rfl | rfl <;> (unfold rowTyp; repeat' split) <;> decide
theorem OwnN.off {w w' : World} {n b k : Nat} {a : Nd} {l r : Tr} {ty : TypeId} {c : Array Value} (hty : offTyp ty) (hk : w.heap[k]? = some (.cells c ty (0, 0))) (hw : ∀ i, i < w.heap.size → i ≠ k → w'.heap[i]? = w.heap[i]?) (h : OwnN n w b a l r) : OwnN n w' b a l r := by
  have ne : ∀ t : TypeId, (t ≠ 37 ∧ t ≠ 111) → t ≠ ty := fun t h2 => by rcases hty with rfl | rfl; exact h2.1; exact h2.2
  match n, h with
  | 0, h | 1, h | 2, h | 3, h | 4, h | 5, h | 6, h | 7, h | 8, h | 9, h | 10, h | 11, h | 12, h | 13, h | 14, h | 16, h | 17, h => exact At.off h hk (ne _ (by decide)) hw
  | 20, h => exact ⟨h.1, h.2.off hk (rowTyp_off _ hty) hw⟩
  | 15, _ | 18, _ | 19, _ => trivial
  | n + 21, _ => trivial
theorem IsT.off {w w' : World} {k : Nat} {ty : TypeId} {c : Array Value} (hty : offTyp ty) (hk : w.heap[k]? = some (.cells c ty (0, 0))) (hw : ∀ i, i < w.heap.size → i ≠ k → w'.heap[i]? = w.heap[i]?) : ∀ {t : Tr}, IsT w t → IsT w' t := by
  intro t
  induction t with
  | nil => intro _; trivial
  | node b o a l r ihl ihr => intro h; exact ⟨ihl h.1, ihr h.2.1, OwnN.off hty hk hw h.2.2⟩
theorem set_other {w : World} {k o : Nat} {v : Value} : ∀ i, i < w.heap.size → i ≠ k → (w.setCell ⟨k, o, none⟩ v).heap[i]? = w.heap[i]? := fun _ _ h => Below.heap_setCell _ _ _ _ h
theorem own_row_fr {P : TypeId → Int → Prop} {w w' : World} {base n sz : Nat} {e : TypeId} {v : Value} {xs : List Value} (h : w.ownsRow base e sz v n xs) (hx : Fr H P w w') (he : e = 192 ∨ e = 106) (hP : ∀ t p, P t p → posTyp t) : w'.ownsRow base e sz v n xs := by
  refine own_move h (fun k hk => ?_)
  obtain ⟨⟨cs, hc⟩, _⟩ := own_typ h hk
  rw [hc]
  exact hx.same hc (by rcases he with rfl | rfl <;> simp [treeTyp]) (fun p _ hp => absurd (hP _ _ hp) (by rcases he with rfl | rfl <;> (unfold posTyp; decide)))
theorem rfail_code {s : Rs} {c p : Int} (hc : c ≠ 0) : (s.fail c p).code ≠ 0 := by
  unfold Rs.fail
  by_cases h : s.code = 0
  · rw [if_pos h]; exact hc
  · rw [if_neg h]; exact h
theorem nd_gaT {t : Tr} (hw : Ws 8 t) (hnd : (ps t).Nodup) : (ps (gaT (elems t) 0 0)).Nodup := by
  rw [(gaT_sh _ 0 0 (hw.elems (.inr (.inr (.inr (.inr rfl)))))).ps, ← ps_elems (.inr (.inr (.inr (.inr rfl)))) hw]
  exact hnd
theorem lets_gaT : ∀ (L : Tr) (nA nF : Nat), lets (gaT L nA nF) = lets L := by
  intro L
  induction L with
  | nil => intro _ _; rfl
  | node b o a e r _ ih =>
    intro nA nF
    have he : ∀ n : Int, lets (setW e n) = lets e := fun n => by cases e <;> rfl
    unfold gaT
    split
    · rw [lets_node, lets_node, he, ih]
    · rw [lets_node, lets_node, he, ih]
theorem fresh_gaT : ∀ (L : Tr) (nA nF : Nat), Fresh H L → Fresh H (gaT L nA nF) := by
  intro L
  induction L with
  | nil => intro _ _ _; trivial
  | node b o a e r _ ih =>
    intro nA nF h
    have he : ∀ n : Int, Fresh H (setW e n) := fun n => by
      cases e with
      | nil => trivial
      | node b2 o2 a2 l2 r2 => exact h.1
    unfold gaT
    split
    · exact ⟨he _, ih _ _ h.2.1, h.2.2⟩
    · exact ⟨he _, ih _ _ h.2.1, h.2.2⟩
theorem lets_drop : ∀ (i : Nat) (L : Tr), lets (dropL i L) ≤ lets L := by
  intro i
  induction i with
  | zero => intro L; exact Nat.le_refl _
  | succ n ih =>
    intro L
    cases L with
    | nil => exact Nat.le_refl _
    | node b o a e r => have := ih r; rw [lets_node]; show lets (dropL n r) ≤ _; omega

/-- The tree, gone through. -/
theorem res_tree {F : Ents} {its : List Tr} {w w' : World} {t : Tr} {s : Rs} (hw : Ws 8 t) (hi : IsT w t) (hb : ∀ (k : Nat) (cs : Array Value), w.heap[k]? = some (.cells cs 151 (0, 0)) → w'.heap[k]? = some (.cells cs 151 (0, 0)))
    (hT : IsT w' (itsT F its (gaT (elems t) 0 0) 0 s)) : IsT w' (withL t (itsT F its (gaT (elems t) 0 0) 0 s)) := by
  rcases hw.lst (.inr (.inr (.inr (.inr rfl)))) with rfl | ⟨b0, o0, a0, l0, rfl, ht, hl0⟩
  · trivial
  · obtain ⟨hne, cs, hc, hr⟩ := own_tag hi.2.2 (n := 20) ht
    have hty : rowTyp l0 = 151 := by
      cases l0 with
      | nil => exact absurd rfl hne
      | node b2 o2 a2 e r =>
        obtain ⟨_, hwe, _⟩ := ws_rest (.inr (.inr (.inr (.inr rfl)))) hl0
        obtain ⟨b3, o3, a3, x, y, rfl, hk⟩ := item_of hwe
        show (if a3.tag = 19 then _ else if a3.tag = 7 then _ else if a3.tag < 7 then _ else if a3.tag < 15 then _ else _) = _
        rw [if_neg (by omega), if_neg (by omega), if_neg (by omega), if_neg (by omega)]
    have hsh := gaT_sh l0 0 0 hl0
    obtain ⟨_, _, _, j4, j5⟩ := itsT_shape (F := F) (its := its) (gaT l0 0 0) 0 s (gaT_kind hl0)
    refine ⟨hT, trivial, ?_⟩
    unfold Own
    rw [ht]
    refine ⟨fun e => hne (hsh.nil_iff.1 (j5.1 e)), cs, ?_, itsT_row _ _ _ _ (gaT_kind hl0) (hsh.rowOk hr)⟩
    show w'.heap[b0]? = some (.cells cs (rowTyp (itsT F its (gaT l0 0 0) 0 s)) (0, 0))
    rw [j4, hsh.rowTyp, hty]
    rw [hty] at hc
    exact hb _ _ hc
/-- Resolve's last steps. -/
theorem res_end {w W3 : World} {t : Tr} {n c p : Int} {m : Int} {nA nF : Nat} {vA vF : Value} (hH : H ≤ w.heap.size) (_hpH : H ≤ pb) (hx : Fw H (fun ty k => posTyp ty ∧ k ∈ ps t) w W3) (ho : W3.heap[w.heap.size]? = some (.cells #[.int .i64 0, .int .i64 0] 37 (0, 0)))
    (hp : W3.heap[pb]? = some (.cells (prgC (valT t) vA vF m (.slice none 0 0)) 111 (0, 0))) (hS : c = (resS t n).code ∧ p = (resS t n).pos) (hA : W3.ownsRow H 192 1 vA nA (ptrs 16 (elems t))) (hF : W3.ownsRow H 106 1 vF nF (ptrs 17 (elems t))) (hT : IsT W3 (resT t)) (hm : (resS t n).code = 0 → m = resM t) :
    PostR H pb t n w (.returned (.agg #[.int .i64 c, .int .i64 p])) ((W3.setCell ⟨w.heap.size, 0, none⟩ (.int .i64 c)).setCell ⟨w.heap.size, 1, none⟩ (.int .i64 p)) := by
  have hob : pb ≠ w.heap.size := ne_typ hp ho (by decide)
  have e1 : ∀ k, k ≠ w.heap.size → ((W3.setCell ⟨w.heap.size, 0, none⟩ (.int .i64 c)).setCell ⟨w.heap.size, 1, none⟩ (.int .i64 p)).heap[k]? = W3.heap[k]? := fun k hk => (Below.heap_setCell _ _ _ _ hk).trans (Below.heap_setCell _ _ _ _ hk)
  refine ⟨by rw [hS.1, hS.2], ?_, hx.os, hx.tape, hx.output, fun k hk => (e1 k (by omega)).trans (hx.below k hk), fun hc => ⟨nA, nF, vA, vF, ?_, ?_, ?_, ?_⟩⟩
  · have := hx.size; simp [World.setCell]; omega
  · rw [e1 pb hob, hp, hm hc]
  · exact own_move hA (fun k hk => e1 k (by obtain ⟨⟨cs, hcs⟩, _⟩ := own_typ hA hk; exact ne_typ hcs ho (by decide)))
  · exact own_move hF (fun k hk => e1 k (by obtain ⟨⟨cs, hcs⟩, _⟩ := own_typ hF hk; exact ne_typ hcs ho (by decide)))
  · exact IsT.off (.inl rfl) ho (fun i _ hi => e1 i hi) hT

set_option maxRecDepth 100000 in
set_option maxHeartbeats 16000000 in
theorem Resolve_any {t : Tr} (hw : Ws 8 t) (hF : Fresh H t) (hnd : (ps t).Nodup) (hlets : lets t ≤ 900000) (hpH : H ≤ pb) (n : Int) (w : World) (hH : H ≤ w.heap.size) (hi : IsT w t) (hp : w.heap[pb]? = some (.cells (prgC (valT t) (.slice none 0 0) (.slice none 0 0) 0 (.slice none 0 0)) 111 (0, 0))) :
    Calls Tryz.prog 43 #[.pointer (some ⟨pb, 0, none⟩), .int .i64 n] w (PostR H pb t n w) := by
  have hpl := (Array.getElem?_eq_some_iff.1 hp).1
  obtain ⟨ao, cp, hvl⟩ := hw.lstval (.inr (.inr (.inr (.inr rfl))))
  have hlen := lenV_le (.inr (.inr (.inr (.inr rfl)))) hw
  have hL := hw.elems (.inr (.inr (.inr (.inr rfl))))
  have hmk : ∀ w : World, (Instr.makeMap 147 none).run Tryz.prog w = .ok (.map (some w.heap.size)) (w.alloc (.map #[] 0)) := fun w => run_makeMap _ w
  -- what is laid ahead
  have z1 : (w.alloc (.cells #[.int .i64 0, .int .i64 0] 37)).heap.size = w.heap.size + 1 := by simp
  have z2 : ((w.alloc (.cells #[.int .i64 0, .int .i64 0] 37)).alloc (.map #[] 0)).heap.size = w.heap.size + 1 + 1 := by simp
  have z3 : (((w.alloc (.cells #[.int .i64 0, .int .i64 0] 37)).alloc (.map #[] 0)).alloc (.map #[] 0)).heap.size = w.heap.size + 1 + 1 + 1 := by simp
  have fr0 : Fr H F0 w (((((w.alloc (.cells #[.int .i64 0, .int .i64 0] 37)).alloc (.map #[] 0)).alloc (.map #[] 0))).alloc (.cells #[.pointer (some ⟨pb, 0, none⟩), .map (some (w.heap.size + 1)), .map (some (w.heap.size + 1 + 1)), .int .i64 0, .int .i64 0] 149)) :=
    ((((Fr.refl H F0 w).alloc _ hH).alloc _ (by rw [z1]; omega)).alloc _ (by rw [z2]; omega)).alloc _ (by rw [z3]; omega)
  have k1 : ∀ k, k < w.heap.size → ((((w.alloc (.cells #[.int .i64 0, .int .i64 0] 37)).alloc (.map #[] 0)).alloc (.map #[] 0)).alloc (.cells #[.pointer (some ⟨pb, 0, none⟩), .map (some (w.heap.size + 1)), .map (some (w.heap.size + 1 + 1)), .int .i64 0, .int .i64 0] 149)).heap[k]? = w.heap[k]? := fun k hk =>
    (Below.heap_alloc _ _ _ (by rw [z3]; omega)).trans ((Below.heap_alloc _ _ _ (by rw [z2]; omega)).trans ((Below.heap_alloc _ _ _ (by rw [z1]; omega)).trans (Below.heap_alloc _ _ _ hk)))
  have o0 : ((((w.alloc (.cells #[.int .i64 0, .int .i64 0] 37)).alloc (.map #[] 0)).alloc (.map #[] 0)).alloc (.cells #[.pointer (some ⟨pb, 0, none⟩), .map (some (w.heap.size + 1)), .map (some (w.heap.size + 1 + 1)), .int .i64 0, .int .i64 0] 149)).heap[w.heap.size]? = some (.cells #[.int .i64 0, .int .i64 0] 37 (0, 0)) :=
    (Below.heap_alloc _ _ _ (by rw [z3]; omega)).trans ((Below.heap_alloc _ _ _ (by rw [z2]; omega)).trans ((Below.heap_alloc _ _ _ (by rw [z1]; omega)).trans (heap_alloc_new w _)))
  have m1 : Mp ((((w.alloc (.cells #[.int .i64 0, .int .i64 0] 37)).alloc (.map #[] 0)).alloc (.map #[] 0)).alloc (.cells #[.pointer (some ⟨pb, 0, none⟩), .map (some (w.heap.size + 1)), .map (some (w.heap.size + 1 + 1)), .int .i64 0, .int .i64 0] 149)) (w.heap.size + 1) 0 [] := by
    have h1 := Mp.made (w.alloc (.cells #[.int .i64 0, .int .i64 0] 37))
    rw [z1] at h1
    exact h1.same ((Below.heap_alloc _ _ _ (by rw [z3]; omega)).trans (Below.heap_alloc _ _ _ (by rw [z2]; omega)))
  have m2 : Mp ((((w.alloc (.cells #[.int .i64 0, .int .i64 0] 37)).alloc (.map #[] 0)).alloc (.map #[] 0)).alloc (.cells #[.pointer (some ⟨pb, 0, none⟩), .map (some (w.heap.size + 1)), .map (some (w.heap.size + 1 + 1)), .int .i64 0, .int .i64 0] 149)) (w.heap.size + 1 + 1) 0 [] := by
    have h1 := Mp.made ((w.alloc (.cells #[.int .i64 0, .int .i64 0] 37)).alloc (.map #[] 0))
    rw [z2] at h1
    exact h1.same (Below.heap_alloc _ _ _ (by rw [z3]; omega))
  have r0 : ((((w.alloc (.cells #[.int .i64 0, .int .i64 0] 37)).alloc (.map #[] 0)).alloc (.map #[] 0)).alloc (.cells #[.pointer (some ⟨pb, 0, none⟩), .map (some (w.heap.size + 1)), .map (some (w.heap.size + 1 + 1)), .int .i64 0, .int .i64 0] 149)).heap[w.heap.size + 1 + 1 + 1]? = some (.cells (rsCells pb (w.heap.size + 1) (w.heap.size + 1 + 1) ⟨[], 0, 0⟩) 149 (0, 0)) := by
    rw [← z3]; exact heap_alloc_new _ _
  go_enter Tryz.func43, Tryz.ntmps43
  go_wp2_with fail
  generalize ((((w.alloc (.cells #[.int .i64 0, .int .i64 0] 37)).alloc (.map #[] 0)).alloc (.map #[] 0)).alloc (.cells #[.pointer (some ⟨pb, 0, none⟩), .map (some (w.heap.size + 1)), .map (some (w.heap.size + 1 + 1)), .int .i64 0, .int .i64 0] 149)) = W0 at *
  have i0 : IsT W0 t := IsT.fr fr0 (fun t p hp => absurd hp id) hw hi (fun _ _ _ h => h)
  have G0 : GaW H pb (w.heap.size + 1 + 1 + 1) (w.heap.size + 1) (w.heap.size + 1 + 1) (valT t) W0 (elems t) 0 0 0 [] (.slice none 0 0) (.slice none 0 0) [] [] W0 :=
    ⟨r0, (k1 pb hpl).trans hp, m1, m2, by omega, ⟨by omega, hpH, by omega, by omega⟩, Fw.refl _ _ _, by cases t with
      | nil => trivial
      | node => exact i0.1, fun _ _ h => h, World.ownsRow_nil _ _ _ _, World.ownsRow_nil _ _ _ _, rfl, rfl, rfl⟩
  refine (gather_any hw hF hnd W0 i0 G0).mono ?_
  rintro e W1 ⟨rfl, nA, nF, vA, vF, G1⟩
  obtain ⟨N1, iT1⟩ := ns_of hw rfl i0 G1
  have o1 := G1.fr.same o0 (by simp [treeTyp0]) (fun p _ hp => absurd (PA.pos _ _ hp) (by unfold posTyp; decide))
  have ownA := G1.ownA
  have ownF := G1.ownF
  have hLs := gaT_sh (elems t) 0 0 hL
  have hlv : lenV t = lenL (gaT (elems t) 0 0) := by rw [hLs.lenL]; exact lenV_elems t
  have hwL := gaT_kind hL
  have hndL := nd_gaT hw hnd
  have HWL : Hid (Ws 18 (gaT (elems t) 0 0)) := hwL
  have HNDL : Hid ((ps (gaT (elems t) 0 0)).Nodup) := hndL
  have HPAR : Hid (ParOk (itsOf t)) := parOk_of hwL
  have HFR : Hid (Fresh H (gaT (elems t) 0 0)) := fresh_gaT _ _ _ (fresh_elems hF)
  have HLE : Hid (lets (gaT (elems t) 0 0) ≤ 900000) := by rw [Hid, lets_gaT, lets_elems (.inr (.inr (.inr (.inr rfl)))) hw]; exact hlets
  have HLV : Hid _ := hlv
  have hits : (itsOf t).length = lenL (gaT (elems t) 0 0) := toL_len _
  have HITS : Hid _ := hits
  have L0 := LpI.start N1 iT1
  have q0 : W1.cell? ⟨pb, 0, none⟩ = some (valT t) := by rw [cell_of_row _ _ _ _ _ _ N1.rs.prog]; rfl
  have hvl' := hvl
  rw [hvl] at q0
  have x01 : Fw H (fun ty p => posTyp ty ∧ p ∈ ps (elems t)) w W1 := (fr0.weak.mono fun _ _ h => absurd h id).trans (G1.fr.mono fun t p h => ⟨PA.pos t p h, h.2⟩)
  have HX01 : Hid _ := x01
  have HO1 : Hid _ := o1
  have HOA : Hid _ := ownA
  have HOF : Hid _ := ownF
  have HT0 : Hid (IsT W0 t) := i0
  have HG1F : Hid _ := G1.fr
  clear fr0 k1 o0 m1 m2 r0 G0 G1 N1 iT1 hwL hndL hlv hits x01 o1 ownA ownF i0 z1 z2 z3 hLs hi hp hpl hF hnd hlets hmk
  go_wp2_with fail
  go_loopg [20] (lenV t) (fun m v wr => ∃ (i : Nat) (si : Rs), v = .int .i64 i ∧ i ≤ lenV t ∧ lenV t ≤ i + m ∧ LpI H pb (w.heap.size + 1 + 1 + 1) (w.heap.size + 1) (w.heap.size + 1 + 1) (prgC (valT t) vA vF 0 (.slice none 0 0)) (firstOf t) (itsOf t) (gaT (elems t) 0 0) rs0 W1 i si wr)
  case atStart => exact ⟨0, rs0, rfl, Nat.zero_le _, by omega, L0⟩
  case round =>
    clear L0 q0
    obtain ⟨i, si, rfl, hle, hm, LP⟩ := hrel
    have HLP : Hid _ := LP
    by_cases hlt : i < lenV t
    · have hltI : (i : Int) < (lenV t : Int) := by omega
      obtain ⟨b2, o2, a2, e2, r2, hd, hd2⟩ := dropL_lt i (gaT (elems t) 0 0) (by rw [← HLV.out]; exact hlt)
      have hwd := ws_drop (.inr (.inr (.inr (.inr rfl)))) i _ HWL.out
      have hndd := nd_drop i _ HNDL.out
      have hfd := fresh_drop i _ HFR.out
      have hld := lets_drop i (gaT (elems t) 0 0)
      rw [hd] at hwd hndd hfd hld
      obtain ⟨_, hwe, _⟩ := ws_rest (.inr (.inr (.inr (.inr rfl)))) hwd
      obtain ⟨b3, o3, a3, x, y, rfl, htag⟩ := item_of hwe
      have hrest := LP.rest
      rw [hd] at hrest
      obtain ⟨g, cp2, rw', hc0, hc1, hc2⟩ := LP.ns.it.row (by rw [HITS.out, ← HLV.out]; omega)
      have hao : valT t = .slice (some ⟨g, 0, none⟩) (itsOf t).length cp2 := by
        have : (prgC (valT t) vA vF 0 (.slice none 0 0))[0]? = some (valT t) := rfl
        rw [this] at hc0
        exact Option.some.inj hc0
      rw [hvl'] at hao
      simp only [Value.slice.injEq] at hao
      obtain ⟨hao1, -, -⟩ := hao
      subst hao1
      have hget : (itsOf t)[i]? = some (.node b3 o3 a3 x y) := by
        have : ∀ (L : Tr) (i : Nat) {b o : Nat} {a : Nd} {e r : Tr}, dropL i L = .node b o a e r → (toL L)[i]? = some e := by
          intro L
          induction L with
          | nil => intro i b o a e r h; cases i <;> cases h
          | node b1 o1 a1 e1 r1 _ ih =>
            intro i b o a e r h
            cases i with
            | zero => cases h; rfl
            | succ i => exact ih i h
        exact this _ _ hd
      have hcell : wr.cell? ⟨g, i, none⟩ = some (valT (.node b3 o3 a3 x y)) := by rw [cell_of_row _ _ _ _ _ _ hc1]; exact hc2 i _ hget
      have hl2 : 20000 + lets (.node b3 o3 a3 x y) ≤ 1000000 := by
        have := HLE.out
        have h0 : lets (.node b2 o2 a2 (.node b3 o3 a3 x y) r2) = (if a2.tag = 9 then 1 else 0) + lets (.node b3 o3 a3 x y) + lets r2 := lets_node _ _ _ _ _
        omega
      have hcall := item_names HPAR.out hwe hfd.1 (uq_of hndd).left hl2 i (by omega) si wr LP.ns hrest.1
      have hve : valT (.node b3 o3 a3 x y) = .iface (ityp a3.tag) (.pointer (some ⟨b3, 0, none⟩)) := if_neg (by omega)
      rw [hve] at hcell hcall
      have HSTEP : Hid _ := fun w3 => HLP.out.step (w3 := w3) HWL.out HNDL.out hd hd2
      clear LP hd hd2 hwd hndd hfd hld hwe hrest hc0 hc1 hc2 hget hl2 hve
      go_wp2_with fail
      refine hcall.mono ?_
      rintro e W3 ⟨rfl, h3, i3, x3⟩
      obtain ⟨m, rfl⟩ : ∃ m, gk = m + 1 := ⟨gk - 1, by omega⟩
      have fin : ∃ (i' : Nat) (si : Rs), Value.int .i64 ((i : Int) + 1) = .int .i64 i' ∧ i' ≤ lenV t ∧ lenV t ≤ i' + m ∧ LpI H pb (w.heap.size + 1 + 1 + 1) (w.heap.size + 1) (w.heap.size + 1 + 1) (prgC (valT t) vA vF 0 (.slice none 0 0)) (firstOf t) (itsOf t) (gaT (elems t) 0 0) rs0 W1 i' si W3 :=
        ⟨i + 1, _, by simp, by omega, by omega, HSTEP.out W3 h3 i3 x3⟩
      clear HSTEP HLP h3 i3 x3
      go_wp2
      go_roundg m
      case rel => exact fin
      case measure => omega
    · have hltI : ¬ (i : Int) < (lenV t : Int) := by omega
      have hi2 : i = lenL (gaT (elems t) 0 0) := by rw [← HLV.out]; omega
      obtain ⟨hsi, iT⟩ : si = resI t ∧ IsT wr (itsT (firstOf t) (itsOf t) (gaT (elems t) 0 0) 0 rs0) := by
        have := LP
        rw [hi2] at this
        exact this.fin
      have ns := LP.ns
      have frL := LP.fr
      have hxx : Fw H (fun ty k => posTyp ty ∧ k ∈ ps t) w wr := by
        have hpt := ps_elems (.inr (.inr (.inr (.inr rfl)))) hw
        refine (HX01.out.mono fun ty k h => ⟨h.1, by rw [hpt]; exact h.2⟩).trans (frL.weak.mono fun ty k h => ⟨h.1, ?_⟩)
        have h2 := h.2
        rw [(gaT_sh _ 0 0 hL).ps] at h2
        rw [hpt]; exact h2
      have oR := frL.same HO1.out (by simp [treeTyp, treeTyp0]) (fun p _ hp => absurd (PI.pos _ _ hp) (by unfold posTyp; decide))
      have hA := own_row_fr HOA.out frL (.inl rfl) PI.pos
      have hFo := own_row_fr HOF.out frL (.inr rfl) PI.pos
      have hT : IsT wr (resT t) := res_tree hw HT0.out (fun k cs hc => by
        have c1 := HG1F.out.same hc (by simp [treeTyp0]) (fun p _ hp => absurd (PA.pos _ _ hp) (by unfold posTyp; decide))
        exact frL.same c1 (by simp [treeTyp, treeTyp0]) (fun p _ hp => absurd (PI.pos _ _ hp) (by unfold posTyp; decide))) iT
      have hprog := ns.rs.prog
      have HEND : Hid _ := fun W3 c p m hx ho hp2 hS hA hF hT hm => res_end (H := H) (pb := pb) (w := w) (W3 := W3) (t := t) (n := n) (c := c) (p := p) (m := m) (nA := nA) (nF := nF) (vA := vA) (vF := vF) hH hpH hx ho hp2 hS hA hF hT hm
      have HXX : Hid _ := hxx
      have HOR : Hid _ := oR
      have HA : Hid _ := hA
      have HFo : Hid _ := hFo
      have HTT : Hid _ := hT
      have HPR : Hid _ := hprog
      have t1 := ta_fun_nil wr
      have t2 := fun q => ta_fun_hit q wr
      have t3 := fun q => ta_fun_miss q wr
      have HSI : Hid (si = resI t) := hsi
      have hfail : ∀ W3 s3, RsW H pb (w.heap.size + 1 + 1 + 1) (w.heap.size + 1) (w.heap.size + 1 + 1) (prgC (valT t) vA vF 0 (.slice none 0 0)) (firstOf t) s3 W3 → Fr H F0 wr W3 → resS t n = s3 → s3.code ≠ 0 →
          PostR H pb t n w (.returned (.agg #[.int .i64 s3.code, .int .i64 s3.pos])) ((W3.setCell ⟨w.heap.size, 0, none⟩ (.int .i64 s3.code)).setCell ⟨w.heap.size, 1, none⟩ (.int .i64 s3.pos)) := by
        intro W3 s3 h3 x3 hs hc
        refine HEND.out W3 _ _ 0 (HXX.out.trans (x3.weak.mono fun _ _ h => absurd h id)) (x3.same HOR.out (by simp [treeTyp, treeTyp0]) (fun _ _ h => h)) h3.prog ⟨by rw [hs], by rw [hs]⟩ (own_row_fr HA.out x3 (.inl rfl) (fun _ _ h => absurd h id)) (own_row_fr HFo.out x3 (.inr rfl) (fun _ _ h => absurd h id)) ?_ (fun h0 => absurd (by rw [hs] at h0; exact h0) hc)
        have hL2 := ws_withL (.inr (.inr (.inr (.inr rfl)))) hw (itsT_shape (F := firstOf t) (its := itsOf t) (gaT (elems t) 0 0) 0 rs0 HWL.out).1 ((itsT_shape _ _ _ HWL.out).2.2.1.trans (gaT_sh _ 0 0 hL).lenL)
        exact IsT.fr x3 (fun _ _ h => absurd h id) hL2 HTT.out (fun _ _ _ h => h)
      have HFAIL : Hid _ := hfail
      clear hfail hxx oR hA hFo hT hprog frL hi2 hsi iT LP HLP HWL HNDL HPAR HFR HLE hle hm hlen hvl hvl' HT0 HG1F HOA HOF HO1 HX01
      rcases meant_ways ns mainB with hmn | ⟨b5, o5, a5, l5, r5, hmn, htag, hist⟩ | ⟨b5, o5, a5, l5, r5, hmn, htag, hist⟩
      · have hres : resS t n = si.fail 4 n := by unfold resS funcOf; rw [hmn, HSI.out]; rfl
        have HRES : Hid _ := hres
        go_wp2_with fail
        refine (meant_any (x := mainB) wr ns.rs ns.it ns.fo (by unfold maxLen; decide)).mono ?_
        rintro e W2 ⟨rfl, rfl⟩
        rw [hmn]
        unfold valM
        go_wp2_with fail
        refine (nfail_any 4 n wr ns.rs).mono ?_
        rintro e W3 ⟨rfl, h3, x3⟩
        have hend := HFAIL.out W3 _ h3 x3 HRES.out (rfail_code (by decide))
        have o3 := x3.same HOR.out (by simp [treeTyp, treeTyp0]) (fun _ _ h => h)
        have q0 : W3.cell? ⟨w.heap.size, 0, none⟩ = some (.int .i64 0) := by rw [cell_of_row _ _ _ _ _ _ o3]; rfl
        have q1 : W3.cell? ⟨w.heap.size, 1, none⟩ = some (.int .i64 0) := by rw [cell_of_row _ _ _ _ _ _ o3]; rfl
        have z0 : ∀ o, W3.frozen? ⟨w.heap.size, o, none⟩ = false := fun o => by simp [World.frozen?, o3]
        have g3 : W3.cell? ⟨w.heap.size + 1 + 1 + 1, 3, none⟩ = some (.int .i64 (si.fail 4 n).code) := h3.cell 3
        have g4 : W3.cell? ⟨w.heap.size + 1 + 1 + 1, 4, none⟩ = some (.int .i64 (si.fail 4 n).pos) := h3.cell 4
        clear hres HRES HFAIL HEND
        go_wp2
        obtain ⟨x0, x1⟩ := two_set (w := W3) (u0 := .int .i64 (si.fail 4 n).code) (u1 := .int .i64 (si.fail 4 n).pos) q0 q1
        exact bodyPost_ret (v := .agg #[.int .i64 (si.fail 4 n).code, .int .i64 (si.fail 4 n).pos]) (by simp [results, Tryz.results43, go_sem, x0, x1]) rfl hend
      · have hres : resS t n = si.fail 4 n := by unfold resS funcOf; rw [hmn, HSI.out]; simp [htag]
        have hv : valT (.node b5 o5 a5 l5 r5) = .iface 192 (.pointer (some ⟨b5, 0, none⟩)) := by show (if a5.tag = 20 then _ else _) = _; rw [if_neg (by omega), htag]; rfl
        have HRES : Hid _ := hres
        clear hist htag
        go_wp2_with fail
        refine (meant_any (x := mainB) wr ns.rs ns.it ns.fo (by unfold maxLen; decide)).mono ?_
        rintro e W2 ⟨rfl, rfl⟩
        rw [hmn]
        unfold valM
        dsimp only
        rw [hv]
        go_wp2_with fail
        refine (nfail_any 4 n wr ns.rs).mono ?_
        rintro e W3 ⟨rfl, h3, x3⟩
        have hend := HFAIL.out W3 _ h3 x3 HRES.out (rfail_code (by decide))
        have o3 := x3.same HOR.out (by simp [treeTyp, treeTyp0]) (fun _ _ h => h)
        have q0 : W3.cell? ⟨w.heap.size, 0, none⟩ = some (.int .i64 0) := by rw [cell_of_row _ _ _ _ _ _ o3]; rfl
        have q1 : W3.cell? ⟨w.heap.size, 1, none⟩ = some (.int .i64 0) := by rw [cell_of_row _ _ _ _ _ _ o3]; rfl
        have z0 : ∀ o, W3.frozen? ⟨w.heap.size, o, none⟩ = false := fun o => by simp [World.frozen?, o3]
        have g3 : W3.cell? ⟨w.heap.size + 1 + 1 + 1, 3, none⟩ = some (.int .i64 (si.fail 4 n).code) := h3.cell 3
        have g4 : W3.cell? ⟨w.heap.size + 1 + 1 + 1, 4, none⟩ = some (.int .i64 (si.fail 4 n).pos) := h3.cell 4
        clear hres HRES HFAIL HEND
        go_wp2
        obtain ⟨x0, x1⟩ := two_set (w := W3) (u0 := .int .i64 (si.fail 4 n).code) (u1 := .int .i64 (si.fail 4 n).pos) q0 q1
        exact bodyPost_ret (v := .agg #[.int .i64 (si.fail 4 n).code, .int .i64 (si.fail 4 n).pos]) (by simp [results, Tryz.results43, go_sem, x0, x1]) rfl hend
      · have hres : resS t n = si := by unfold resS funcOf; rw [hmn, HSI.out]; simp [htag]
        have hmm : resM t = a5.which := by unfold resM funcOf; rw [hmn]; simp [htag, whichT]
        have hv : valT (.node b5 o5 a5 l5 r5) = .iface 106 (.pointer (some ⟨b5, 0, none⟩)) := by show (if a5.tag = 20 then _ else _) = _; rw [if_neg (by omega), htag]; rfl
        obtain ⟨cs5, hc5, ⟨_, _, hq5⟩, _⟩ := hist
        have m5 : wr.cell? ⟨b5, 2, none⟩ = some (.int .i64 a5.which) := by rw [cell_of_row _ _ _ _ _ _ hc5]; exact hq5
        have p3 : wr.cell? ⟨pb, 3, none⟩ = some (.int .i64 0) := by rw [cell_of_row _ _ _ _ _ _ HPR.out]; rfl
        have pz : wr.frozen? ⟨pb, 3, none⟩ = false := by simp [World.frozen?, HPR.out]
        have hpob : pb ≠ w.heap.size := ne_typ HPR.out HOR.out (by decide)
        have hprb : w.heap.size + 1 + 1 + 1 ≠ pb := ne_typ ns.rs.blk HPR.out (by decide)
        have o4 : (wr.setCell ⟨pb, 3, none⟩ (.int .i64 a5.which)).heap[w.heap.size]? = some (.cells #[.int .i64 0, .int .i64 0] 37 (0, 0)) := (Below.heap_setCell _ _ _ _ hpob.symm).trans HOR.out
        have b4 : (wr.setCell ⟨pb, 3, none⟩ (.int .i64 a5.which)).heap[w.heap.size + 1 + 1 + 1]? = _ := (Below.heap_setCell _ _ _ _ hprb).trans ns.rs.blk
        have c4 : (wr.setCell ⟨pb, 3, none⟩ (.int .i64 a5.which)).heap[pb]? = some (.cells (prgC (valT t) vA vF a5.which (.slice none 0 0)) 111 (0, 0)) := heap_set (o := 3) _ HPR.out
        have hend : PostR H pb t n w (.returned (.agg #[.int .i64 si.code, .int .i64 si.pos])) (((wr.setCell ⟨pb, 3, none⟩ (.int .i64 a5.which)).setCell ⟨w.heap.size, 0, none⟩ (.int .i64 si.code)).setCell ⟨w.heap.size, 1, none⟩ (.int .i64 si.pos)) := by
          refine HEND.out (wr.setCell ⟨pb, 3, none⟩ (.int .i64 a5.which)) _ _ a5.which ?_ o4 c4 ⟨by rw [hres], by rw [hres]⟩ ?_ ?_ ?_ (fun _ => hmm.symm)
          · exact HXX.out.set hpH (fun cs ty hty e => by
              rw [HPR.out] at e
              simp only [Option.some.injEq, Obj.cells.injEq] at e
              rw [← e.2.1] at hty
              exact absurd hty (by unfold treeTyp0; decide)) _ _
          · exact own_move HA.out (fun k hk => Below.heap_setCell _ _ _ _ (by obtain ⟨⟨cs, hcs⟩, _⟩ := own_typ HA.out hk; exact ne_typ hcs HPR.out (by decide)))
          · exact own_move HFo.out (fun k hk => Below.heap_setCell _ _ _ _ (by obtain ⟨⟨cs, hcs⟩, _⟩ := own_typ HFo.out hk; exact ne_typ hcs HPR.out (by decide)))
          · exact IsT.off (.inr rfl) HPR.out (fun i _ hi => Below.heap_setCell _ _ _ _ hi) HTT.out
        have HE : Hid _ := hend
        have HO4 : Hid _ := o4
        have HB4 : Hid _ := b4
        clear hres hmm hc5 hq5 htag hend o4 b4 c4 HFAIL HEND hpob hprb
        go_wp2_with fail
        refine (meant_any (x := mainB) wr ns.rs ns.it ns.fo (by unfold maxLen; decide)).mono ?_
        rintro e W2 ⟨rfl, rfl⟩
        rw [hmn]
        unfold valM
        dsimp only
        rw [hv]
        go_upto_region 13 with fail
        generalize wr.setCell ⟨pb, 3, none⟩ (.int .i64 a5.which) = W3 at *
        have o3 := HO4.out
        have q0 : W3.cell? ⟨w.heap.size, 0, none⟩ = some (.int .i64 0) := by rw [cell_of_row _ _ _ _ _ _ o3]; rfl
        have q1 : W3.cell? ⟨w.heap.size, 1, none⟩ = some (.int .i64 0) := by rw [cell_of_row _ _ _ _ _ _ o3]; rfl
        have z0 : ∀ o, W3.frozen? ⟨w.heap.size, o, none⟩ = false := fun o => by simp [World.frozen?, o3]
        have g3 : W3.cell? ⟨w.heap.size + 1 + 1 + 1, 3, none⟩ = some (.int .i64 si.code) := by rw [cell_of_row _ _ _ _ _ _ HB4.out]; rfl
        have g4 : W3.cell? ⟨w.heap.size + 1 + 1 + 1, 4, none⟩ = some (.int .i64 si.pos) := by rw [cell_of_row _ _ _ _ _ _ HB4.out]; rfl
        have hend := HE.out
        clear HE
        go_wp2
        obtain ⟨x0, x1⟩ := two_set (w := W3) (u0 := .int .i64 si.code) (u1 := .int .i64 si.pos) q0 q1
        exact bodyPost_ret (v := .agg #[.int .i64 si.code, .int .i64 si.pos]) (by simp [results, Tryz.results43, go_sem, x0, x1]) rfl hend
end Go.Proofs.YtikffmloeifkpaaGreatDoor

/- Package names: where there is no fault, each name means something that is there. -/
namespace Go.Proofs.YtikffmloeifkpaaGreatDoor
open Go.RowKit Go.Lib Go.Deep Go.ChangeMaps Go.MapKept
variable {F : Ents} {its : List Tr}

/-- The functions, the arrays of a list of items. -/
def fnsL (l : List Tr) : List Tr := l.filter fun e => tagOf e == 17
def arrsL (l : List Tr) : List Tr := l.filter fun e => tagOf e == 16
theorem tag_setW (e : Tr) (n : Int) : tagOf (setW e n) = tagOf e := by cases e <;> rfl
theorem whichT_setW {e : Tr} (h : e ≠ .nil) (n : Int) : whichT (setW e n) = n := by
  cases e with
  | nil => exact absurd rfl h
  | node => rfl
theorem item_tag {e : Tr} (h : Ws 7 e) : (tagOf e = 16 ∨ tagOf e = 17) ∧ e ≠ .nil := by
  obtain ⟨b, o, a, l, r, rfl, ht⟩ := item_of h
  exact ⟨ht, by intro h; cases h⟩
/-- An item is the one that it is told to be. -/
theorem which_fn : ∀ (L : Tr) (nA nF : Nat) (e : Tr), Ws 18 L → e ∈ toL (gaT L nA nF) → tagOf e = 17 → ∃ j : Nat, (fnsL (toL (gaT L nA nF)))[j]? = some e ∧ whichT e = ((nF + j : Nat) : Int) := by
  intro L
  induction L with
  | nil => intro nA nF e _ h; cases h
  | node b o a e0 r _ ih =>
    intro nA nF e hw h ht
    obtain ⟨_, hwe, hwr⟩ := ws_rest (.inr (.inr (.inr (.inr rfl)))) hw
    obtain ⟨htag, hne0⟩ := item_tag hwe
    unfold gaT at h ⊢
    by_cases h16 : tagOf e0 = 16
    · rw [if_pos h16] at h ⊢
      have hne : tagOf (setW e0 nA) ≠ 17 := by rw [tag_setW]; omega
      rcases List.mem_cons.1 h with rfl | h
      · exact absurd ht hne
      · obtain ⟨j, h1, h2⟩ := ih (nA + 1) nF e hwr h ht
        refine ⟨j, ?_, h2⟩
        show ((setW e0 (nA : Int) :: toL (gaT r (nA + 1) nF)).filter _)[j]? = _
        rw [List.filter_cons_of_neg (by simpa using hne)]
        exact h1
    · rw [if_neg h16] at h ⊢
      have hy : tagOf (setW e0 nF) = 17 := by rw [tag_setW]; omega
      rcases List.mem_cons.1 h with rfl | h
      · refine ⟨0, ?_, ?_⟩
        · show ((setW e0 (nF : Int) :: toL (gaT r nA (nF + 1))).filter _)[0]? = _
          rw [List.filter_cons_of_pos (by simpa using hy)]
          rfl
        · rw [whichT_setW hne0]; simp
      · obtain ⟨j, h1, h2⟩ := ih nA (nF + 1) e hwr h ht
        refine ⟨j + 1, ?_, by rw [h2]; congr 1; omega⟩
        show ((setW e0 (nF : Int) :: toL (gaT r nA (nF + 1))).filter _)[j + 1]? = _
        rw [List.filter_cons_of_pos (by simpa using hy)]
        exact h1
theorem which_arr : ∀ (L : Tr) (nA nF : Nat) (e : Tr), Ws 18 L → e ∈ toL (gaT L nA nF) → tagOf e = 16 → ∃ j : Nat, (arrsL (toL (gaT L nA nF)))[j]? = some e ∧ whichT e = ((nA + j : Nat) : Int) := by
  intro L
  induction L with
  | nil => intro nA nF e _ h; cases h
  | node b o a e0 r _ ih =>
    intro nA nF e hw h ht
    obtain ⟨_, hwe, hwr⟩ := ws_rest (.inr (.inr (.inr (.inr rfl)))) hw
    obtain ⟨htag, hne0⟩ := item_tag hwe
    unfold gaT at h ⊢
    by_cases h16 : tagOf e0 = 16
    · rw [if_pos h16] at h ⊢
      have hy : tagOf (setW e0 nA) = 16 := by rw [tag_setW]; omega
      rcases List.mem_cons.1 h with rfl | h
      · refine ⟨0, ?_, ?_⟩
        · show ((setW e0 (nA : Int) :: toL (gaT r (nA + 1) nF)).filter _)[0]? = _
          rw [List.filter_cons_of_pos (by simpa using hy)]
          rfl
        · rw [whichT_setW hne0]; simp
      · obtain ⟨j, h1, h2⟩ := ih (nA + 1) nF e hwr h ht
        refine ⟨j + 1, ?_, by rw [h2]; congr 1; omega⟩
        show ((setW e0 (nA : Int) :: toL (gaT r (nA + 1) nF)).filter _)[j + 1]? = _
        rw [List.filter_cons_of_pos (by simpa using hy)]
        exact h1
    · rw [if_neg h16] at h ⊢
      have hne : tagOf (setW e0 nF) ≠ 16 := by rw [tag_setW]; exact h16
      rcases List.mem_cons.1 h with rfl | h
      · exact absurd ht hne
      · obtain ⟨j, h1, h2⟩ := ih nA (nF + 1) e hwr h ht
        refine ⟨j, ?_, h2⟩
        show ((setW e0 (nF : Int) :: toL (gaT r nA (nF + 1))).filter _)[j]? = _
        rw [List.filter_cons_of_neg (by simpa using hne)]
        exact h1

/-! A fault stays. -/
theorem rfail_zero {s : Rs} {c p : Int} (hc : c ≠ 0) (h : (s.fail c p).code = 0) : False := rfail_code hc h
theorem newVar_zero {s : Rs} {x : ByteArray} {p m : Int} (h : (s.newVar x p m).code = 0) : s.newVar x p m = s ∧ look x s.vars = none ∧ s.vars.length < m := by
  unfold Rs.newVar at h ⊢
  by_cases hm : m ≤ s.vars.length
  · rw [if_pos hm] at h; exact absurd h (rfail_code (by decide))
  · rw [if_neg hm] at h ⊢
    by_cases hv : (look x s.vars).isSome
    · rw [if_pos hv] at h; exact absurd h (rfail_code (by decide))
    · rw [if_neg hv]
      exact ⟨rfl, by simpa using hv, by omega⟩
theorem oldVar_zero {s : Rs} {x : ByteArray} {p : Int} (h : (s.oldVar x p).code = 0) : s.oldVar x p = s ∧ (look x s.vars).isSome := by
  unfold Rs.oldVar at h ⊢
  by_cases hv : (look x s.vars).isSome
  · rw [if_pos hv]; exact ⟨rfl, hv⟩
  · rw [if_neg hv] at h; exact absurd h (rfail_code (by decide))
theorem arrayName_zero {s : Rs} {x : ByteArray} {p : Int} (h : (s.arrayName F its x p).code = 0) : s.arrayName F its x p = s ∧ ∃ e, arrayOf F its x = some e := by
  unfold Rs.arrayName at h ⊢
  cases hv : arrayOf F its x with
  | none => rw [hv] at h; exact absurd h (rfail_code (by decide))
  | some e => exact ⟨rfl, e, rfl⟩
theorem callName_zero {s : Rs} {x : ByteArray} {p : Int} {n : Nat} (h : (s.callName F its x p n).code = 0) : s.callName F its x p n = s ∧ ∃ b o a l r, funcOf F its x = some (.node b o a l r) ∧ n = lenV l := by
  unfold Rs.callName at h ⊢
  cases hv : funcOf F its x with
  | none => rw [hv] at h; exact absurd h (rfail_code (by decide))
  | some e =>
    rw [hv] at h
    cases e with
    | nil => exact absurd h (rfail_code (by decide))
    | node b o a l r =>
      dsimp only at h ⊢
      by_cases hn : n = lenV l
      · rw [if_pos hn]; exact ⟨rfl, b, o, a, l, r, rfl, hn⟩
      · rw [if_neg hn] at h; exact absurd h (rfail_code (by decide))
theorem rs1_zero {a : Nd} {n : Nat} {s : Rs} (h : (rs1 F its a n s).code = 0) : rs1 F its a n s = s := by
  unfold rs1 at h ⊢
  by_cases h9 : a.tag = 9
  · rw [if_pos h9] at h ⊢
    by_cases hf : a.flag = true
    · rw [if_pos hf] at h ⊢; exact (newVar_zero h).1
    · rw [if_neg hf] at h ⊢; exact (oldVar_zero h).1
  rw [if_neg h9] at h ⊢
  by_cases h1 : a.tag = 1
  · rw [if_pos h1] at h ⊢; exact (oldVar_zero h).1
  rw [if_neg h1] at h ⊢
  by_cases h2 : a.tag = 2 ∨ a.tag = 10
  · rw [if_pos h2] at h ⊢; exact (arrayName_zero h).1
  rw [if_neg h2] at h ⊢
  by_cases h3 : a.tag = 3
  · rw [if_pos h3] at h ⊢; exact (callName_zero h).1
  rw [if_neg h3]
theorem rsT_zero : ∀ (t : Tr) (s : Rs), (rsT F its t s).code = 0 → s.code = 0 := by
  intro t
  induction t with
  | nil => intro s h; exact h
  | node b o a l r ihl ihr =>
    intro s h
    by_cases h9 : a.tag = 9 ∧ a.flag = true
    · have e : rsT F its (.node b o a l r) s = (rsT F its l (rs1 F its a (lenV l) s)).addVar a.name := if_pos h9
      rw [e] at h
      have h1 := ihl _ h
      rwa [rs1_zero h1] at h1
    · rw [rs_nine h9] at h
      have h1 := ihl _ (ihr _ h)
      rwa [rs1_zero h1] at h1

/-- Variables are numbered in their order. -/
structure VarsOk (s : Rs) : Prop where
  lt : ∀ x i, look x s.vars = some i → 0 ≤ i ∧ i < s.vars.length
  few : s.vars.length ≤ 12
theorem look_len {s : Rs} {x : ByteArray} (h : VarsOk s) (hx : look x s.vars = none) (h12 : s.vars.length < 12) : VarsOk (s.addVar x) ∧ (s.addVar x).vars.length = s.vars.length + 1 := by
  have hl : (s.addVar x).vars.length = s.vars.length + 1 := by
    show (put x s.vars.length s.vars).length = _
    rw [length_put, hx]; rfl
  refine ⟨⟨fun y i hy => ?_, by omega⟩, hl⟩
  rw [hl]
  by_cases hxy : y = x
  · subst hxy
    have : look y (put y s.vars.length s.vars) = some i := hy
    rw [look_put_same] at this
    simp only [Option.some.injEq] at this
    omega
  · have : look y (put x s.vars.length s.vars) = some i := hy
    rw [look_put_other hxy] at this
    have := h.lt y i this
    omega
theorem sig_big {p n : Nat} (h : 24 ≤ p) : sig p n = none := by
  unfold sig
  iterate 15 rw [if_neg (by omega)]
set_option maxHeartbeats 2000000 in
theorem sig_tag {p n : Nat} (h : 21 ≤ n) : sig p n = none := by
  have h1 : ¬ n ≤ 1 := by omega
  have h2 : ¬ n ≤ 5 := by omega
  have e : ∀ k, k < 21 → ¬ n = k := fun k hk => by omega
  simp [sig, h1, h2, e 2 (by omega), e 3 (by omega), e 6 (by omega), e 7 (by omega), e 8 (by omega), e 9 (by omega), e 10 (by omega), e 11 (by omega), e 12 (by omega), e 13 (by omega), e 14 (by omega), e 15 (by omega), e 16 (by omega), e 17 (by omega), e 18 (by omega), e 19 (by omega), e 20 (by omega)]
theorem sig9_small : ∀ p < 24, sig p 9 = none ∨ sig p 9 = some (0, 99) := by decide
theorem sig_9 {p x y : Nat} (h : sig p 9 = some (x, y)) : x = 0 ∧ y = 99 := by
  by_cases hp : p < 24
  · rcases sig9_small p hp with e | e
    · rw [e] at h; cases h
    · rw [e] at h; cases h; exact ⟨rfl, rfl⟩
  · rw [sig_big (by omega)] at h; cases h
def nolet (s : Nat) : Bool := s == 0 || s == 1 || s == 3 || s == 13 || s == 21 || s == 20 || s == 15 || s == 5 || s == 99
def kidsOk (o : Option (Nat × Nat)) : Bool := match o with
  | none => true
  | some (x, y) => nolet x && nolet y
set_option maxRecDepth 10000 in
theorem nolet_small : ∀ s < 24, ∀ n < 21, nolet s = true → kidsOk (sig s n) = true ∧ (n = 9 → sig s n = none) := by decide
theorem nolet_iff (s : Nat) : nolet s = true ↔ (s = 0 ∨ s = 1 ∨ s = 3 ∨ s = 13 ∨ s = 21 ∨ s = 20 ∨ s = 15 ∨ s = 5 ∨ s = 99) := by simp [nolet, or_assoc]
theorem nolet_kids {s n x y : Nat} (h : sig s n = some (x, y)) (hs : s = 0 ∨ s = 1 ∨ s = 3 ∨ s = 13 ∨ s = 21 ∨ s = 20 ∨ s = 15 ∨ s = 5 ∨ s = 99) : n ≠ 9 ∧ (x = 0 ∨ x = 1 ∨ x = 3 ∨ x = 13 ∨ x = 21 ∨ x = 20 ∨ x = 15 ∨ x = 5 ∨ x = 99) ∧ (y = 0 ∨ y = 1 ∨ y = 3 ∨ y = 13 ∨ y = 21 ∨ y = 20 ∨ y = 15 ∨ y = 5 ∨ y = 99) := by
  rw [← nolet_iff] at hs
  rw [← nolet_iff x, ← nolet_iff y]
  by_cases hp : s < 24
  · by_cases hn : n < 21
    · obtain ⟨h1, h2⟩ := nolet_small s hp n hn hs
      rw [h] at h1 h2
      refine ⟨fun e => (by cases h2 e), ?_⟩
      simpa [kidsOk] using h1
    · rw [sig_tag (by omega)] at h; cases h
  · rw [sig_big (by omega)] at h; cases h
/-- Where a tree holds no let. -/
theorem lets_zero : ∀ (t : Tr) (s : Nat), Ws s t → s = 0 ∨ s = 1 ∨ s = 3 ∨ s = 13 ∨ s = 21 ∨ s = 20 ∨ s = 15 ∨ s = 5 ∨ s = 99 → lets t = 0 := by
  intro t
  induction t with
  | nil => intro s _ _; rfl
  | node b o a l r ihl ihr =>
    intro s hw hs
    obtain ⟨_, x, y, hsig, hl, hr⟩ := hw.parts
    have key := nolet_kids hsig hs
    rw [lets_node, if_neg key.1, ihl x hl key.2.1, ihr y hr key.2.2]
theorem rsT_vars : ∀ (t : Tr) (s : Rs), lets t = 0 → (rsT F its t s).vars = s.vars := by
  intro t
  induction t with
  | nil => intro s _; rfl
  | node b o a l r ihl ihr =>
    intro s h
    rw [lets_node] at h
    have h9 : ¬ (a.tag = 9 ∧ a.flag = true) := fun e => by rw [if_pos e.1] at h; omega
    rw [rs_nine h9, ihr _ (by omega), ihl _ (by omega), rs1_vars]

/-- What names mean, in a part of a function: nv variables, na arrays, functions with so many parameters. -/
def Vd (par : Nat → Option Nat) (na nv : Nat) : Tr → Prop
  | .nil => True
  | .node _ _ a l r => Vd par na nv l ∧ Vd par na nv r ∧ (a.tag = 1 ∨ a.tag = 9 → 0 ≤ a.which ∧ a.which < nv) ∧ (a.tag = 2 ∨ a.tag = 10 → 0 ≤ a.which ∧ a.which < na) ∧ (a.tag = 3 → 0 ≤ a.which ∧ par a.which.toNat = some (lenV l))
theorem Vd.mono {par : Nat → Option Nat} {na nv nv' : Nat} (h : nv ≤ nv') : ∀ {t : Tr}, Vd par na nv t → Vd par na nv' t := by
  intro t
  induction t with
  | nil => intro _; trivial
  | node b o a l r ihl ihr => intro ⟨h1, h2, h3, h4⟩; exact ⟨ihl h1, ihr h2, fun e => by have := h3 e; omega, h4⟩
theorem Vd.er {par : Nat → Option Nat} {na nv : Nat} : ∀ {t : Tr}, Vd par na nv (YtikffmloeifkpaaGreatDoor.er t) ↔ Vd par na nv t := by
  intro t
  induction t with
  | nil => exact Iff.rfl
  | node b o a l r ihl ihr =>
    show (Vd par na nv (YtikffmloeifkpaaGreatDoor.er l) ∧ Vd par na nv (YtikffmloeifkpaaGreatDoor.er r) ∧ _ ∧ _ ∧ _) ↔ _
    rw [ihl, ihr, lenV_er]
    exact Iff.rfl
/-- The items' own numbers. -/
structure ItsOk (F : Ents) (its : List Tr) (par : Nat → Option Nat) (na : Nat) : Prop where
  arr : ∀ x e, arrayOf F its x = some e → 0 ≤ whichT e ∧ whichT e < na
  fn : ∀ x b o a l r, funcOf F its x = some (.node b o a l r) → 0 ≤ a.which ∧ par a.which.toNat = some (lenV l)
theorem vd_any {par : Nat → Option Nat} {na : Nat} (hI : ItsOk F its par na) : ∀ (t : Tr) (p : Nat) (s : Rs), Ws p t → (rsT F its t s).code = 0 → VarsOk s → VarsOk (rsT F its t s) ∧ s.vars.length ≤ (rsT F its t s).vars.length ∧ Vd par na (rsT F its t s).vars.length (reT F its t s) := by
  intro t
  induction t with
  | nil => intro p s _ _ h; exact ⟨h, Nat.le_refl _, trivial⟩
  | node b o a l r ihl ihr =>
    intro p s hw hc hv
    obtain ⟨_, x, y, hsig, hwl, hwr⟩ := hw.parts
    by_cases h9 : a.tag = 9 ∧ a.flag = true
    · have e : rsT F its (.node b o a l r) s = (rsT F its l (rs1 F its a (lenV l) s)).addVar a.name := if_pos h9
      have e2 : reT F its (.node b o a l r) s = .node b o { a with which := (rsT F its l (rs1 F its a (lenV l) s)).vars.length } (reT F its l (rs1 F its a (lenV l) s)) r := if_pos h9
      rw [e] at hc
      rw [e, e2]
      have hc1 : (rsT F its l (rs1 F its a (lenV l) s)).code = 0 := hc
      have hc2 := rsT_zero _ _ hc1
      have hrs : rs1 F its a (lenV l) s = s.newVar a.name a.npos 12 := by unfold rs1; rw [if_pos h9.1, if_pos h9.2]
      obtain ⟨n1, n2, n3⟩ := newVar_zero (by rw [← hrs]; exact hc2)
      rw [hrs, n1] at hc1 ⊢
      have hxy : x = 0 ∧ y = 99 := sig_9 (by rw [← h9.1]; exact hsig)
      obtain ⟨rfl, rfl⟩ := hxy
      obtain rfl := hwr.nil_of
      obtain ⟨v1, v2, v3⟩ := ihl 0 s hwl hc1 hv
      have hvars := rsT_vars (F := F) (its := its) l s (lets_zero l 0 hwl (by simp))
      have hvl : (rsT F its l s).vars.length = s.vars.length := by rw [hvars]
      obtain ⟨w1, w2⟩ := look_len v1 (by rw [hvars]; exact n2) (by rw [hvl]; omega)
      refine ⟨w1, by omega, v3.mono (by omega), trivial, fun _ => ?_, fun e => by have := h9.1; dsimp only at e; omega, fun e => by have := h9.1; dsimp only at e; omega⟩
      dsimp only
      omega
    · rw [rs_nine h9] at hc ⊢
      rw [re_nine h9]
      have hc1 := rsT_zero _ _ hc
      have hc2 := rsT_zero _ _ hc1
      have hs := rs1_zero hc2
      have hc3 := hc2
      rw [hs] at hc hc1 ⊢
      obtain ⟨v1, v2, v3⟩ := ihl x s hwl hc1 hv
      obtain ⟨w1, w2, w3⟩ := ihr y _ hwr hc v1
      refine ⟨w1, by omega, v3.mono w2, w3, fun ht => ?_, fun ht => ?_, fun ht => ?_⟩
      · dsimp only at ht ⊢
        have hwh : wh1 F its a (lenV l) s = (look a.name s.vars).getD 0 := by unfold wh1; rw [if_pos ht]
        have hsome : (look a.name s.vars).isSome := by
          unfold rs1 at hc3
          rcases ht with ht | ht
          · rw [if_neg (by omega), if_pos ht] at hc3; exact (oldVar_zero hc3).2
          · have hf : ¬ a.flag = true := fun h => h9 ⟨ht, h⟩
            rw [if_pos ht, if_neg hf] at hc3; exact (oldVar_zero hc3).2
        obtain ⟨i, hi⟩ := Option.isSome_iff_exists.1 hsome
        have := hv.lt _ _ hi
        rw [hwh, hi]
        show 0 ≤ i ∧ i < _
        omega
      · dsimp only at ht ⊢
        have hwh : wh1 F its a (lenV l) s = whichA F its a.name a.which := by unfold wh1; rw [if_neg (by omega), if_pos ht]
        unfold rs1 at hc3
        rw [if_neg (by omega), if_neg (by omega), if_pos ht] at hc3
        obtain ⟨_, e, he⟩ := arrayName_zero hc3
        rw [hwh]
        unfold whichA
        rw [he]
        exact hI.arr _ _ he
      · dsimp only at ht ⊢
        have hwh : wh1 F its a (lenV l) s = whichC F its a.name (lenV l) a.which := by unfold wh1; rw [if_neg (by omega), if_neg (by omega), if_pos ht]
        unfold rs1 at hc3
        rw [if_neg (by omega), if_neg (by omega), if_neg (by omega), if_pos ht] at hc3
        obtain ⟨_, b5, o5, a5, l5, r5, he, hn⟩ := callName_zero hc3
        have h1 := hI.fn _ _ _ _ _ _ he
        have e1 : whichC F its a.name (lenV l) a.which = a5.which := by
          unfold whichC
          rw [he]
          exact if_pos hn
        have hlen : lenV (reT F its l s) = lenV l := by
          have := reT_sh F its l s
          cases l with
          | nil => rfl
          | node b1 o1 a1 l1 r1 =>
            obtain ⟨a', l', r', e', h1, _⟩ := this.node rfl
            rw [e']; exact h1.lenL
        rw [hwh, e1, hlen, hn]
        exact h1
end Go.Proofs.YtikffmloeifkpaaGreatDoor
