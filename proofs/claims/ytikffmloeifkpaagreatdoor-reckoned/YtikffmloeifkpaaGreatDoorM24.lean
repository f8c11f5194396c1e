/- The program's contracts, part 24: each says what a function of the program does, for every argument that its premises name. -/
import Derived.Test.YtikffmloeifkpaaGreatDoorM23
/- Package walk: a program that was read, as it is walked. -/
namespace Go.Proofs.YtikffmloeifkpaaGreatDoor
open Go.RowKit Go.Lib Go.Deep Go.ChangeMaps Go.MapKept

/-- The arrays, the functions, main: as they lie in memory. -/
def alOf (t : Tr) : List Tr := kindOf 16 (elems (siT (fnsOf t) (resT t) []))
def flOf (t : Tr) : List Tr := kindOf 17 (elems (siT (fnsOf t) (resT t) []))
def mainOf (t : Tr) : Tr := (flOf t).getD (resM t).toNat .nil
theorem isT_kind {w : World} (k : Nat) : ∀ {L : Tr}, IsT w L → ∀ e ∈ kindOf k L, IsT w e := by
  intro L
  induction L with
  | nil => intro _ e he; cases he
  | node b o a x r _ ih =>
    intro h e he
    by_cases hk : tagOf x = k
    · rw [show kindOf k (.node b o a x r) = x :: kindOf k r from if_pos hk] at he
      rcases List.mem_cons.1 he with rfl | he
      · exact h.1
      · exact ih h.2.1 e he
    · rw [show kindOf k (.node b o a x r) = kindOf k r from if_neg hk] at he
      exact ih h.2.1 e he
theorem kind_len (k : Nat) : ∀ L : Tr, (kindOf k L).length ≤ lenL L := by
  intro L
  induction L with
  | nil => exact Nat.le_refl _
  | node b o a x r _ ih =>
    show (if tagOf x = k then x :: kindOf k r else kindOf k r).length ≤ lenL r + 1
    split
    · simp only [List.length_cons]; omega
    · omega
theorem kind_tag {k : Nat} : ∀ {L : Tr} {e : Tr}, e ∈ kindOf k L → tagOf e = k := by
  intro L
  induction L with
  | nil => intro e he; cases he
  | node b o a x r _ ih =>
    intro e he
    by_cases hk : tagOf x = k
    · rw [show kindOf k (.node b o a x r) = x :: kindOf k r from if_pos hk] at he
      rcases List.mem_cons.1 he with rfl | he
      · exact hk
      · exact ih he
    · rw [show kindOf k (.node b o a x r) = kindOf k r from if_neg hk] at he
      exact ih he
theorem kind_ws {k : Nat} : ∀ {L : Tr}, Ws 18 L → ∀ e ∈ kindOf k L, Ws 7 e := by
  intro L
  induction L with
  | nil => intro _ e he; cases he
  | node b o a x r _ ih =>
    intro hw e he
    obtain ⟨h15, hwe, hwr⟩ := ws_rest (.inr (.inr (.inr (.inr rfl)))) hw
    by_cases hk : tagOf x = k
    · rw [show kindOf k (.node b o a x r) = x :: kindOf k r from if_pos hk] at he
      rcases List.mem_cons.1 he with rfl | he
      · exact hwe
      · exact ih hwr e he
    · rw [show kindOf k (.node b o a x r) = kindOf k r from if_neg hk] at he
      exact ih hwr e he
theorem fn_parts {e : Tr} (hw : Ws 7 e) (ht : tagOf e = 17) : ∃ b o a l x y z p q, e = .node b o a l (.node x y z p q) ∧ a.tag = 17 ∧ Ws 6 l ∧ Ws 5 p ∧ Ws 4 q := by
  cases e with
  | nil => exact absurd hw (by unfold Ws nilOk; omega)
  | node b o a l r =>
    have h17 : a.tag = 17 := ht
    obtain ⟨_, x, y, hsig, hl, hr⟩ := hw.parts
    rw [h17] at hsig
    cases hsig
    cases r with
    | nil => exact absurd hr (by unfold Ws nilOk; omega)
    | node x y z p q =>
      obtain ⟨_, sp, sq, hs2, hp, hq⟩ := hr.parts
      have hz : z.tag = 18 := by
        by_cases h : z.tag = 18
        · exact h
        · exfalso; simp [sig, h] at hs2
      rw [hz] at hs2
      cases hs2
      exact ⟨b, o, a, l, x, y, z, p, q, rfl, h17, hl, hp, hq⟩

/-- What comes of a program that was read well. -/
structure Good (s : ByteArray) (t : Tr) : Prop where
  ws : Ws 8 t
  ok : ProgOk t (resT t) (resM t)
  si : Ws 18 (elems (resT t))
  el : elems (siT (fnsOf t) (resT t) []) = siT (fnsOf t) (elems (resT t)) []
theorem good {s : ByteArray} {t : Tr} (he : er t = rdT s) (hc : (readC s).1 = 0) : Good s t := by
  unfold readC at hc
  by_cases h4 : 4000 < s.size
  · rw [if_pos h4] at hc; cases hc
  rw [if_neg h4] at hc
  by_cases h1 : (cutOf s).code = 0
  · rw [if_neg (by omega)] at hc
    by_cases h2 : (programP (toksOf s)).1.code = 0
    · rw [if_neg (by omega)] at hc
      have h3 : (resS (rdT s) s.size).code = 0 := hc
      have hsm := toks_small h1 (by omega)
      have hw : Ws 8 t := (Ws.er t 8).1 (by rw [he]; exact (ok_program hsm (toks_ends s) (by simp [toksOf]) h2).1)
      rw [← he, resS_er] at h3
      have hw2 := (resT_shape hw).1
      refine ⟨hw, prog_ok hw h3, hw2.elems (.inr (.inr (.inr (.inr rfl)))), elems_siT _ (fun b o a l r e => ?_) _⟩
      rcases hw2.lst (.inr (.inr (.inr (.inr rfl)))) with e2 | ⟨b2, o2, a2, l2, e2, h20, _⟩
      · rw [e2] at e; cases e
      · rw [e2] at e; cases e; exact h20
    · rw [if_pos h2] at hc; exact absurd hc h2
  · rw [if_pos h1] at hc; exact absurd hc h1
variable {s : ByteArray} {t : Tr}
theorem Good.fl (h : Good s t) {e : Tr} (he : e ∈ flOf t) : ∃ b o a l x y z p q, e = .node b o a l (.node x y z p q) ∧ a.tag = 17 ∧ Ws 6 l ∧ Ws 5 p ∧ Ws 4 q ∧ Vd (parOf t) (naOf t) 12 p ∧ Vd (parOf t) (naOf t) 12 q := by
  unfold flOf at he
  rw [h.el] at he
  obtain ⟨e0, S, h0, rfl⟩ := kind_siT_mem h.si he
  obtain ⟨b, o, a, l, x, y, z, p, q, e1, h17, hl, hp, hq⟩ := fn_parts (kind_ws h.si e0 h0) (kind_tag h0)
  obtain ⟨b', o', a', l', x', y', z', p', q', e2, _, hz, v1, v2, _⟩ := h.ok.fns e0 h0
  rw [e1] at e2
  cases e2
  rw [e1, (func_si h17 hz hl hp).2]
  exact ⟨b, o, a, l, x, y, z, p, _, rfl, h17, hl, hp, (siT_sh _ q _).ws hq, v1, v2.si _⟩
theorem Good.len (h : Good s t) : (flOf t).length = (kindOf 17 (elems t)).length := by
  unfold flOf
  rw [h.el]
  have := congrArg List.length (kind_siT_ptr (F := fnsOf t) (k := 17) (S := []) h.si)
  simp only [List.length_map] at this
  rw [this]
  exact h.ok.len
theorem Good.alen (h : Good s t) : (alOf t).length = naOf t := by
  unfold alOf
  rw [h.el]
  have := congrArg List.length (kind_siT_ptr (F := fnsOf t) (k := 16) (S := []) h.si)
  simp only [List.length_map] at this
  rw [this]
  exact h.ok.na
theorem Good.flok (h : Good s t) : FlOk (parOf t) (naOf t) (alOf t) (flOf t) := by
  refine ⟨by rw [h.alen]; exact Nat.le_refl _, ?_, fun j n hj => ?_, fun e he => ?_⟩
  · rw [h.len]
    have h1 := kind_len 17 (elems t)
    have h2 := lenV_le (.inr (.inr (.inr (.inr rfl)))) h.ws
    rw [lenV_elems] at h2
    omega
  · have hlt : j < (kindOf 17 (elems t)).length := by
      rcases Nat.lt_or_ge j (kindOf 17 (elems t)).length with h | h
      · exact h
      · unfold parOf at hj
        rw [List.getElem?_eq_none (by simpa using h)] at hj
        cases hj
    have hj2 : ((kindOf 17 (elems (resT t))).map nPar)[j]? = some n := by rw [h.ok.par]; exact hj
    rw [List.getElem?_map] at hj2
    have hl2 := h.len
    refine ⟨?_, (flOf t)[j]'(by omega), List.getElem?_eq_getElem (by omega)⟩
    cases he : (kindOf 17 (elems (resT t)))[j]? with
    | none => rw [he] at hj2; cases hj2
    | some e =>
      rw [he] at hj2
      obtain ⟨b, o, a, l, x, y, z, p, q, e1, _, _, _, _, h4⟩ := h.ok.fns e (List.mem_of_getElem? he)
      rw [e1] at hj2
      simp only [Option.map_some, Option.some.injEq] at hj2
      rw [← hj2]
      exact h4
  · obtain ⟨b, o, a, l, x, y, z, p, q, e1, h17, hl, hp, hq, v1, v2⟩ := h.fl he
    rw [e1]
    exact ⟨hp, hq, v1, v2⟩
theorem Good.main (h : Good s t) : ∃ j : Nat, resM t = j ∧ (flOf t)[j]? = some (mainOf t) := by
  obtain ⟨j, e, hj⟩ := h.ok.main
  have hlen := h.len
  have := h.ok.len
  refine ⟨j, e, ?_⟩
  unfold mainOf
  rw [e, Int.toNat_natCast, List.getD_eq_getElem?_getD]
  rw [List.getElem?_eq_getElem (by omega)]
  rfl
theorem Pg0.pgx {H g cap pb : Nat} {vA vF vS : Value} {w : World} (h : Pg0 H g cap pb s t vA vF vS w) (hg : Good s t) : PgX pb (alOf t) (flOf t) w := by
  have hel : IsT w (siT (fnsOf t) (elems (resT t)) []) := by
    rw [← hg.el]
    have := h.is
    cases hT : siT (fnsOf t) (resT t) [] with
    | nil => trivial
    | node b o a l r => rw [hT] at this; exact this.1
  have hptr : ∀ k, (kindOf k (elems (siT (fnsOf t) (resT t) []))).map ptrT = (kindOf k (elems (resT t))).map ptrT := fun k => by
    rw [hg.el]; exact kind_siT_ptr hg.si
  have hfi : ∀ e ∈ flOf t, IsT w e := fun e he => by
    unfold flOf at he
    rw [hg.el] at he
    exact isT_kind 17 hel e he
  have hfow : ∀ e ∈ flOf t, ∃ b o a l x y z p q, e = .node b o a l (.node x y z p q) ∧ FnW w b a l p q ∧ Ws 5 p ∧ Ws 4 q := fun e he => by
    obtain ⟨b, o, a, l, x, y, z, p, q, e1, h17, hl, hp, hq, _, _⟩ := hg.fl he
    have hi := hfi e he
    rw [e1] at hi
    obtain ⟨cs, hc, hn, h3, x', y', z', p', q', e2, h4, h5, h6⟩ := own_tag hi.2.2 (n := 17) h17
    simp only [BT.node.injEq] at e2
    obtain ⟨rfl, rfl, rfl, rfl, rfl⟩ := e2
    exact ⟨b, o, a, l, x, y, z, p, q, e1, ⟨cs, hc, hn, h3, h4, h5, h6⟩, hp, hq⟩
  refine ⟨⟨valT t, vA, vF, resM t, vS, H, h.prog, ?_, ⟨?_, hfow⟩⟩, fun e he => ?_, ?_, hfi⟩
  · have h1 := h.arrs
    rw [hg.alen]
    unfold alOf
    rw [hptr 16]
    have e1 : ptrs 16 (elems t) = (kindOf 16 (elems (resT t))).map ptrT := by
      have hL := hg.ws.elems (.inr (.inr (.inr (.inr rfl))))
      rw [elems_resT hg.ws, (kind_itsT _ _ _ (gaT_kind hL)).2.1, ptr_gaT, ptrs_kind]
    rw [← e1]
    exact h1
  · have h1 := h.fns.row
    have e1 : (flOf t).map ptrT = (fnsOf t).map ptrT := hptr 17
    have e2 : (flOf t).length = (fnsOf t).length := by simpa using congrArg List.length e1
    rw [e1, e2]
    exact h1
  · unfold alOf at he
    rw [hg.el] at he
    have hie := isT_kind 16 hel e he
    obtain ⟨e0, S, h0, rfl⟩ := kind_siT_mem hg.si he
    obtain ⟨b, o, a, l, r, rfl, h16, _, v1, v2⟩ := hg.ok.arrs e0 h0
    rw [plain_si (by omega)] at hie ⊢
    obtain ⟨cs, hc, _, h3, _⟩ := own_tag hie.2.2 (n := 16) h16
    exact ⟨b, o, a, _, _, rfl, ⟨cs, hc, h3⟩, v1, v2⟩
  · rw [hg.alen]; exact hg.ok.few
end Go.Proofs.YtikffmloeifkpaaGreatDoor
