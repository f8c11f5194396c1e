/- The program's contracts, part 16: each says what a function of the program does, for every argument that its premises name. -/
import Derived.Test.YtikffmloeifkpaaGreatDoorM15
/- Package names: all arrays and functions, ahead of the rest: plainly, and what lies in memory meanwhile. -/
namespace Go.Proofs.YtikffmloeifkpaaGreatDoor
open Go.RowKit Go.Lib Go.Deep Go.ChangeMaps Go.MapKept

def tagOf : Tr → Nat
  | .nil => 99
  | .node _ _ a _ _ => a.tag
/-- Each item is told which one it is among its like. -/
def gaT : Tr → Nat → Nat → Tr
  | .nil, _, _ => .nil
  | .node b o a e r, nA, nF => if tagOf e = 16 then .node b o a (setW e nA) (gaT r (nA + 1) nF) else .node b o a (setW e nF) (gaT r nA (nF + 1))
/-- The first item of each name. -/
def gaF : Tr → Nat → Ents → Ents
  | .nil, _, F => F
  | .node _ _ _ e r, i, F => gaF r (i + 1) (if (look (nameOfT e) F).isSome then F else put (nameOfT e) i F)
/-- Where the items of a kind lie. -/
def ptrs (k : Nat) : Tr → List Value
  | .nil => []
  | .node _ _ _ e r => if tagOf e = k then ptrT e :: ptrs k r else ptrs k r
def prgC (it vA vF : Value) (n : Int) (vS : Value) : Array Value := #[it, vA, vF, .int .i64 n, vS]
/-- The places of arrays and functions. -/
def PA (L : Tr) : TypeId → Int → Prop := fun ty p => (ty = 196 ∨ ty = 105) ∧ p ∈ ps L
theorem PA.pos {L : Tr} (t : TypeId) (p : Int) (h : PA L t p) : posTyp t := by rcases h.1 with h | h <;> rw [h] <;> simp [posTyp]

structure GaW (H pb rb fb vb : Nat) (it : Value) (w0 : World) (L : Tr) (i nA nF : Nat) (F : Ents) (vA vF : Value) (xA xF : List Value) (wr : World) : Prop where
  blk : wr.heap[rb]? = some (.cells (rsCells pb fb vb ⟨[], 0, 0⟩) 149 (0, 0))
  prog : wr.heap[pb]? = some (.cells (prgC it vA vF 0 (.slice none 0 0)) 111 (0, 0))
  first : Mp wr fb F.length F
  vars : Mp wr vb 0 []
  ne : fb ≠ vb
  ge : H ≤ rb ∧ H ≤ pb ∧ H ≤ fb ∧ H ≤ vb
  fr : Fw H (PA L) w0 wr
  rest : IsT wr (dropL i L)
  wand : ∀ w2, Fw H (PA (dropL i L)) wr w2 → IsT w2 (gaT (dropL i L) nA nF) → IsT w2 (gaT L 0 0)


  ownA : wr.ownsRow H 192 1 vA nA xA
  ownF : wr.ownsRow H 106 1 vF nF xF
  hA : xA ++ ptrs 16 (dropL i L) = ptrs 16 L
  hF : xF ++ ptrs 17 (dropL i L) = ptrs 17 L
  cnt : nA + nF = i


theorem own_typ {w : World} {base n sz k : Nat} {e : TypeId} {v : Value} {xs : List Value} (h : w.ownsRow base e sz v n xs) (hk : v.ownBlock = some k) : (∃ cs, w.heap[k]? = some (.cells cs e (0, 0))) ∧ base ≤ k := by
  rcases h.2 with ⟨hx, _⟩ | ⟨g', cap', cur, hv, hb, hh, _⟩
  · rw [hx] at hk; simp [Value.ownBlock] at hk
  · rw [hv] at hk
    simp only [Value.ownBlock, Option.some.injEq] at hk
    subst hk
    exact ⟨⟨cur, hh⟩, hb⟩
theorem own_move {w w' : World} {base n sz : Nat} {e : TypeId} {v : Value} {xs : List Value} (h : w.ownsRow base e sz v n xs) (hm : ∀ k, v.ownBlock = some k → w'.heap[k]? = w.heap[k]?) : w'.ownsRow base e sz v n xs := by
  refine ⟨h.1, ?_⟩
  rcases h.2 with h2 | ⟨g, cap, cur, hv, hb, hh, r⟩
  · exact .inl h2
  · exact .inr ⟨g, cap, cur, hv, hb, (hm g (by rw [hv]; rfl)).trans hh, r⟩
theorem FrX.grown {X : TypeId → Prop} {H : Nat} {P : TypeId → Int → Prop} {u w w' : World} {row : Option Nat} (h : FrX X H P u w) (hg : w.grownBy w' row) (hH : H ≤ w.heap.size) (hr : ∀ k, row = some k → H ≤ k ∧ ∀ cs t, X t → w.heap[k]? ≠ some (.cells cs t (0, 0))) : FrX X H P u w' := by
  refine h.trans ⟨hg.os, hg.tape, hg.output, hg.size, fun k hk => hg.block k (by omega) (fun e => ?_), fun k cs t ht hk => ⟨cs, (hg.block k (Array.getElem?_eq_some_iff.1 hk).1 (fun e => ?_)).trans hk, .inl rfl⟩⟩
  · have := (hr k e.symm).1; omega
  · exact (hr k e.symm).2 cs t ht hk
theorem item_of {e : Tr} (h : Ws 7 e) : ∃ b o a l r, e = .node b o a l r ∧ (a.tag = 16 ∨ a.tag = 17) := by
  cases e with
  | nil => exact absurd h (by unfold Ws nilOk; simp)
  | node b o a l r =>
    obtain ⟨_, x, y, hsig, _⟩ := h.parts
    by_cases h1 : a.tag = 16
    · exact ⟨b, o, a, l, r, rfl, .inl h1⟩
    by_cases h2 : a.tag = 17
    · exact ⟨b, o, a, l, r, rfl, .inr h2⟩
    exfalso; simp [sig, h1, h2] at hsig
theorem Mp.ne_cells {w : World} {b n k : Nat} {l : Ents} (h : Mp w b n l) {cs : Array Value} {t : TypeId} (hk : w.heap[k]? = some (.cells cs t (0, 0))) : b ≠ k := by
  obtain ⟨es, cl, e⟩ := h.ismap
  intro x; subst x
  rw [e] at hk; cases hk
theorem ne_typ {w : World} {k j : Nat} {cs cs' : Array Value} {t t' : TypeId} (hk : w.heap[k]? = some (.cells cs t (0, 0))) (hj : w.heap[j]? = some (.cells cs' t' (0, 0))) (h : t ≠ t') : k ≠ j := by
  intro e; subst e
  rw [hk] at hj
  simp only [Option.some.injEq, Obj.cells.injEq] at hj
  exact h hj.2.1
theorem nam_set2 {cs : Array Value} {a : Nd} (h : Nam cs 0 a) (i : Int) : Nam (cs.setIfInBounds 2 (.int .i64 i)) 0 { a with which := i } := h.set i
/-- An item's own block, once it is told which one it is. -/
theorem own_wr2 {k : Nat} {w w' : World} {a : Nd} {l r : Tr} {i : Int} (h : Own w k a l r) (ht : a.tag = 16 ∨ a.tag = 17) (hw : ∀ (cs : Array Value) (t : TypeId), w.heap[k]? = some (.cells cs t (0, 0)) → w'.heap[k]? = some (.cells (cs.setIfInBounds 2 (.int .i64 i)) t (0, 0))) : Own w' k { a with which := i } l r := by
  unfold Own at h ⊢
  dsimp only
  have ne : ∀ {cs : Array Value} {j : Nat} {v : Value} {x : Value}, 2 ≠ j → cs[j]? = some v → (cs.setIfInBounds 2 x)[j]? = some v := fun hj hv => (Array.getElem?_setIfInBounds_ne hj).trans hv
  rcases ht with ht | ht <;> rw [ht] at h ⊢
  · obtain ⟨cs, hc, hn, h3, h4⟩ := h
    exact ⟨_, hw _ _ hc, hn.set _, ne (by decide) h3, ne (by decide) h4⟩
  · obtain ⟨cs, hc, hn, h3, x, y, z, p, q, e, h4, h5, h6⟩ := h
    exact ⟨_, hw _ _ hc, hn.set _, ne (by decide) h3, x, y, z, p, q, e, ne (by decide) h4, ne (by decide) h5, ne (by decide) h6⟩
theorem gaT_sh : ∀ (t : Tr) (nA nF : Nat), Ws 18 t → Sh t (gaT t nA nF) := by
  intro t
  induction t with
  | nil => intro _ _ _; trivial
  | node b o a e r _ ih =>
    intro nA nF hw
    obtain ⟨_, hwe, hwr⟩ := ws_rest (.inr (.inr (.inr (.inr rfl)))) hw
    have he : ∀ n : Int, Sh e (setW e n) := by
      intro n
      obtain ⟨b2, o2, a2, l2, r2, rfl, ht⟩ := item_of hwe
      exact ⟨rfl, rfl, rfl, rfl, rfl, rfl, rfl, rfl, fun e => by omega, fun _ => rfl, Sh.refl _, Sh.refl _⟩
    unfold gaT
    split
    · exact ⟨rfl, rfl, rfl, rfl, rfl, rfl, rfl, rfl, fun _ => rfl, fun _ => rfl, he _, ih _ _ hwr⟩
    · exact ⟨rfl, rfl, rfl, rfl, rfl, rfl, rfl, rfl, fun _ => rfl, fun _ => rfl, he _, ih _ _ hwr⟩

variable {H pb rb fb vb : Nat} {it : Value} {w0 wr w' W3 : World} {L : Tr} {i nA nF : Nat} {F F' : Ents} {vA vF : Value} {xA xF : List Value}
theorem GaW.put (h : GaW H pb rb fb vb it w0 L i nA nF F vA vF xA xF wr) (hw : Ws 18 L) {n : Nat} (hm : Mp w' fb n F') (ht : wr.mapTurned w' fb) : GaW H pb rb fb vb it w0 L i nA nF F' vA vF xA xF w' := by
  have hne : ∀ (k : Nat) (cs : Array Value) (t : TypeId), wr.heap[k]? = some (.cells cs t (0, 0)) → w'.heap[k]? = wr.heap[k]? := by
    intro k cs t hk
    obtain ⟨es, cl, es', cl', hb, rfl⟩ := ht
    refine heap_setBlock_other hb _ ?_
    intro e; subst e; rw [hb] at hk; cases hk
  have hv : w'.heap[vb]? = wr.heap[vb]? := by
    obtain ⟨es, cl, es', cl', hb, rfl⟩ := ht
    exact heap_setBlock_other hb _ h.ne.symm
  have hx : Fw H (PA L) wr w' := (Fw.refl _ _ _).turned h.ge.2.2.1 ht
  have hx0 : Fw H F0 wr w' := (Fw.refl _ _ _).turned h.ge.2.2.1 ht
  refine ⟨(hne _ _ _ h.blk).trans h.blk, (hne _ _ _ h.prog).trans h.prog, hm.tight, h.vars.same hv, h.ne, h.ge, h.fr.trans hx, ?_, fun w2 hx2 hi => h.wand w2 ((hx0.mono F0.to).trans hx2) hi, ?_, ?_, h.hA, h.hF, h.cnt⟩
  · exact IsT.fw hx0 (fun t p hp => absurd hp id) (ws_drop (.inr (.inr (.inr (.inr rfl)))) i _ hw) h.rest (fun _ _ _ h => h)
  · exact own_move h.ownA (fun k hk => by obtain ⟨⟨cs, hc⟩, _⟩ := own_typ h.ownA hk; exact hne _ _ _ hc)
  · exact own_move h.ownF (fun k hk => by obtain ⟨⟨cs, hc⟩, _⟩ := own_typ h.ownF hk; exact hne _ _ _ hc)

/-- One array's or function's place. -/
def Pone (k : Int) : TypeId → Int → Prop := fun ty p => (ty = 196 ∨ ty = 105) ∧ p = k
theorem Pone.pos {k : Int} (t : TypeId) (p : Int) (h : Pone k t p) : posTyp t := by rcases h.1 with h | h <;> rw [h] <;> simp [posTyp]

theorem GaW.stepA (h : GaW H pb rb fb vb it w0 L i nA nF F vA vF xA xF wr) (hw : Ws 18 L) (hnd : (ps L).Nodup) (hF : Fresh H L) {b o b2 o2 g cap : Nat} {a a2 : Nd} {x y r : Tr} (hd : dropL i L = .node b o a (.node b2 o2 a2 x y) r) (hd2 : dropL (i + 1) L = r) (ht : a2.tag = 16)
    (own : W3.ownsRow H 192 1 (.slice (some ⟨g, 0, none⟩) (nA + 1) cap) (nA + 1) (xA ++ [.pointer (some ⟨b2, 0, none⟩)])) (grow : ((wr.setCell ⟨b2, 2, none⟩ (.int .i64 nA)).alloc (.cells #[.pointer (some ⟨b2, 0, none⟩)] 192)).grownBy W3 vA.ownBlock)
    (hat : vA.ownBlock = some g ∨ g = wr.heap.size + 1) :
    GaW H pb rb fb vb it w0 L (i + 1) (nA + 1) nF F (.slice (some ⟨g, 0, none⟩) (nA + 1) cap) vF (xA ++ [.pointer (some ⟨b2, 0, none⟩)]) xF (W3.setCell ⟨pb, 1, none⟩ (.slice (some ⟨g, 0, none⟩) (nA + 1) cap)) ∧ (W3.setCell ⟨pb, 1, none⟩ (.slice (some ⟨g, 0, none⟩) (nA + 1) cap)).cell? ⟨b2, 0, none⟩ = some (.string a2.name) := by
  have hwd := ws_drop (.inr (.inr (.inr (.inr rfl)))) i _ hw
  have uq := nd_drop i _ hnd
  have hps := ps_drop i L
  have hFd := fresh_drop i L hF
  have hrest := h.rest
  have hwand := h.wand
  have hA := h.hA
  have hFF := h.hF
  rw [hd] at hwd uq hps hFd hrest hwand hA hFF
  obtain ⟨h15, hwe, hwr⟩ := ws_rest (.inr (.inr (.inr (.inr rfl)))) hwd
  have uq := uq_of uq
  have hb2 : H ≤ b2 := hFd.1.2.2 (by unfold placed; omega)
  have hown := hrest.1.2.2
  obtain ⟨cs, hc, hn⟩ : ∃ cs, wr.heap[b2]? = some (.cells cs 196 (0, 0)) ∧ Nam cs 0 a2 := by
    obtain ⟨cs, hc, hn, _⟩ := own_tag hown (n := 16) ht
    exact ⟨cs, hc, hn⟩
  have hp2 : a2.npos ∈ ps (.node b2 o2 a2 x y) := po_ps (by unfold po; rw [ht]; simp [named])
  have hH := Nat.le_trans h.ge.1 (Nat.le_of_lt (Array.getElem?_eq_some_iff.1 h.blk).1)
  -- world by world
  have q1 : ∀ k, k ≠ b2 → (wr.setCell ⟨b2, 2, none⟩ (.int .i64 nA)).heap[k]? = wr.heap[k]? := fun k hk => Below.heap_setCell _ _ _ _ hk
  have s1 : (wr.setCell ⟨b2, 2, none⟩ (.int .i64 (nA : Int))).heap.size = wr.heap.size := by simp [World.setCell]
  have z1 : (wr.setCell ⟨b2, 2, none⟩ (.int .i64 (nA : Int))).heap[b2]? = some (.cells (cs.setIfInBounds 2 (.int .i64 nA)) 196 (0, 0)) := heap_set _ hc
  have q2 : ∀ k, k < wr.heap.size → ((wr.setCell ⟨b2, 2, none⟩ (.int .i64 nA)).alloc (.cells #[.pointer (some ⟨b2, 0, none⟩)] 192)).heap[k]? = (wr.setCell ⟨b2, 2, none⟩ (.int .i64 nA)).heap[k]? := fun k hk => Below.heap_alloc _ _ _ (by rw [s1]; exact hk)
  have s2 : ((wr.setCell ⟨b2, 2, none⟩ (.int .i64 (nA : Int))).alloc (.cells #[.pointer (some ⟨b2, 0, none⟩)] 192)).heap.size = wr.heap.size + 1 := by simp [World.setCell]
  have q3 : ∀ k, k < wr.heap.size → vA.ownBlock ≠ some k → W3.heap[k]? = ((wr.setCell ⟨b2, 2, none⟩ (.int .i64 nA)).alloc (.cells #[.pointer (some ⟨b2, 0, none⟩)] 192)).heap[k]? := fun k hk hne => grow.block k (by rw [s2]; omega) (fun e => hne e.symm)
  have hvk : ∀ (k : Nat) (c : Array Value) (t : TypeId), wr.heap[k]? = some (.cells c t (0, 0)) → t ≠ 192 → vA.ownBlock ≠ some k := by
    intro k c t hk hne e
    obtain ⟨⟨c2, hc2⟩, _⟩ := own_typ h.ownA e
    exact ne_typ hk hc2 hne rfl
  have hvm : ∀ k n l, Mp wr k n l → vA.ownBlock ≠ some k := by
    intro k n l hk e
    obtain ⟨⟨c2, hc2⟩, _⟩ := own_typ h.ownA e
    exact hk.ne_cells hc2 rfl
  have hgpb : g ≠ pb := by
    rcases hat with e | e
    · intro e2; rw [e2] at e; exact hvk pb _ _ h.prog (by decide) e
    · have := (Array.getElem?_eq_some_iff.1 h.prog).1; omega
  have cellsK : ∀ (k : Nat) (c : Array Value) (t : TypeId), wr.heap[k]? = some (.cells c t (0, 0)) → t ≠ 192 → k ≠ b2 → W3.heap[k]? = some (.cells c t (0, 0)) := by
    intro k c t hk hne hkb
    have hlt := (Array.getElem?_eq_some_iff.1 hk).1
    rw [q3 k hlt (hvk k c t hk hne), q2 k hlt, q1 k hkb]; exact hk
  have pb2 : pb ≠ b2 := ne_typ h.prog hc (by decide)
  have rb2 : rb ≠ b2 := ne_typ h.blk hc (by decide)
  have rpb : rb ≠ pb := ne_typ h.blk h.prog (by decide)
  have prog3 := cellsK pb _ _ h.prog (by decide) pb2
  have mapK : ∀ k n l, Mp wr k n l → Mp (W3.setCell ⟨pb, 1, none⟩ (.slice (some ⟨g, 0, none⟩) (nA + 1) cap)) k n l := by
    intro k n l hk
    have hlt := hk.lt
    refine hk.same ((Below.heap_setCell _ _ _ _ (hk.ne_cells h.prog)).trans ?_)
    rw [q3 k hlt (hvm k n l hk), q2 k hlt, q1 k (hk.ne_cells hc)]
  have hb3 : W3.heap[b2]? = some (.cells (cs.setIfInBounds 2 (.int .i64 nA)) 196 (0, 0)) := by
    have hlt := (Array.getElem?_eq_some_iff.1 hc).1
    rw [q3 b2 hlt (hvk b2 _ _ hc (by decide)), q2 b2 hlt]; exact z1
  -- frames
  have f1 : Fw H (Pone a2.npos) wr (wr.setCell ⟨b2, 2, none⟩ (.int .i64 nA)) := (Fw.refl _ _ _).write hc hb2 (by omega) hn.2.1 ⟨by simp, rfl⟩ _
  have f2 := f1.alloc (.cells #[.pointer (some ⟨b2, 0, none⟩)] 192) (by rw [s1]; exact hH)
  have f3 : Fw H (Pone a2.npos) wr W3 := f2.grown grow (by rw [s2]; omega) (fun k hk => by
    obtain ⟨⟨c2, hc2⟩, hb⟩ := own_typ h.ownA hk
    refine ⟨hb, fun c t ht2 e => ?_⟩
    have hlt := (Array.getElem?_eq_some_iff.1 hc2).1
    rw [q2 k hlt, q1 k (ne_typ hc2 hc (by decide)), hc2] at e
    simp only [Option.some.injEq, Obj.cells.injEq] at e
    rw [← e.2.1] at ht2
    exact absurd ht2 (by unfold treeTyp0; decide))
  have f4 : Fw H (Pone a2.npos) wr (W3.setCell ⟨pb, 1, none⟩ (.slice (some ⟨g, 0, none⟩) (nA + 1) cap)) := f3.set h.ge.2.1 (fun c t ht2 e => by
    rw [prog3] at e
    simp only [Option.some.injEq, Obj.cells.injEq] at e
    rw [← e.2.1] at ht2
    exact absurd ht2 (by unfold treeTyp0; decide)) _ _
  have hb4 : (W3.setCell ⟨pb, 1, none⟩ (.slice (some ⟨g, 0, none⟩) (nA + 1) cap)).heap[b2]? = some (.cells (cs.setIfInBounds 2 (.int .i64 nA)) 196 (0, 0)) := (Below.heap_setCell _ _ _ _ pb2.symm).trans hb3
  have kids : ∀ t s, Ws s t → IsT wr t → (∀ p ∈ ps t, p ≠ a2.npos) → IsT (W3.setCell ⟨pb, 1, none⟩ (.slice (some ⟨g, 0, none⟩) (nA + 1) cap)) t := fun t s hw hi hp => IsT.fw f4 Pone.pos hw hi (fun p hp2 ty hq => hp p hp2 hq.2)
  have ue := uq_of (b := b2) (o := o2) uq.left
  have hpo : a2.npos ∈ po a2 := by unfold po; rw [ht]; simp [named]
  have hT4 : IsT (W3.setCell ⟨pb, 1, none⟩ (.slice (some ⟨g, 0, none⟩) (nA + 1) cap)) (.node b2 o2 { a2 with which := (nA : Int) } x y) := by
    obtain ⟨_, sx, sy, _, hwx, hwy⟩ := hwe.parts
    refine ⟨kids x _ hwx hrest.1.1 (fun p hp e => ue.own_l _ hpo (e ▸ hp)), kids y _ hwy hrest.1.2.1 (fun p hp e => ue.own_r _ hpo (e ▸ hp)), own_wr2 hown (by omega) (fun c t hct => ?_)⟩
    rw [hc] at hct
    simp only [Option.some.injEq, Obj.cells.injEq] at hct
    obtain ⟨rfl, rfl, _⟩ := hct
    exact hb4
  refine ⟨⟨?_, ?_, mapK _ _ _ h.first, mapK _ _ _ h.vars, h.ne, h.ge, h.fr.trans (f4.mono fun t p hp => ⟨hp.1, hps p (ps_left (by rw [hp.2]; exact hp2))⟩), ?_, ?_, ?_, ?_, ?_, ?_, ?_⟩, ?_⟩
  · exact (Below.heap_setCell _ _ _ _ rpb).trans (cellsK rb _ _ h.blk (by decide) rb2)
  · exact heap_set (o := 1) _ prog3
  · rw [hd2]
    exact kids r _ hwr hrest.2.1 (fun p hp e => by subst e; exact uq.apart _ hp2 hp)
  · intro w2 hx hi
    rw [hd2] at hx hi
    refine hwand w2 ((f4.mono fun t p hp => ⟨hp.1, ps_left (by rw [hp.2]; exact hp2)⟩).trans (hx.mono fun t p hp => ⟨hp.1, ps_right hp.2⟩)) ?_
    have e1 : gaT (.node b o a (.node b2 o2 a2 x y) r) nA nF = .node b o a (.node b2 o2 { a2 with which := (nA : Int) } x y) (gaT r (nA + 1) nF) := by
      show (if a2.tag = 16 then _ else _) = _
      rw [if_pos ht]
      rfl
    rw [e1]
    refine ⟨?_, hi, by unfold Own; rw [h15]; trivial⟩
    have hsh : Sh (.node b2 o2 a2 x y) (.node b2 o2 { a2 with which := (nA : Int) } x y) := ⟨rfl, rfl, rfl, rfl, rfl, rfl, rfl, rfl, fun e => by omega, fun _ => rfl, Sh.refl _, Sh.refl _⟩
    exact IsT.fw hx PA.pos (hsh.ws hwe) hT4 (fun p hp ty hq => by rw [hsh.ps] at hp; exact uq.apart p hp hq.2)
  · refine ⟨own.1, ?_⟩
    rcases own.2 with ⟨hx, _⟩ | ⟨g', cap', cur, hv', hb', hh, r'⟩
    · cases hx
    · refine .inr ⟨g', cap', cur, hv', hb', ?_, r'⟩
      simp only [Value.slice.injEq, Option.some.injEq, Addr.mk.injEq] at hv'
      obtain ⟨⟨rfl, _, _⟩, _, _⟩ := hv'
      exact (Below.heap_setCell _ _ _ _ hgpb).trans hh
  · refine own_move h.ownF (fun k hk => ?_)
    obtain ⟨⟨c2, hc2⟩, _⟩ := own_typ h.ownF hk
    rw [hc2]
    exact (Below.heap_setCell _ _ _ _ (ne_typ hc2 h.prog (by decide))).trans (cellsK k _ _ hc2 (by decide) (ne_typ hc2 hc (by decide)))
  · rw [hd2, List.append_assoc, ← hA]
    show _ = xA ++ (if a2.tag = 16 then _ else _)
    rw [if_pos ht]
    rfl
  · rw [hd2, ← hFF]
    show _ = xF ++ (if a2.tag = 17 then _ else _)
    rw [if_neg (by omega)]
  · have := h.cnt; omega
  · rw [cell_of_row _ _ _ _ _ _ hb4, Array.getElem?_setIfInBounds_ne (by omega)]; exact hn.1

theorem GaW.stepF (h : GaW H pb rb fb vb it w0 L i nA nF F vA vF xA xF wr) (hw : Ws 18 L) (hnd : (ps L).Nodup) (hF : Fresh H L) {b o b2 o2 g cap : Nat} {a a2 : Nd} {x y r : Tr} (hd : dropL i L = .node b o a (.node b2 o2 a2 x y) r) (hd2 : dropL (i + 1) L = r) (ht : a2.tag = 17)
    (own : W3.ownsRow H 106 1 (.slice (some ⟨g, 0, none⟩) (nF + 1) cap) (nF + 1) (xF ++ [.pointer (some ⟨b2, 0, none⟩)])) (grow : ((wr.setCell ⟨b2, 2, none⟩ (.int .i64 nF)).alloc (.cells #[.pointer (some ⟨b2, 0, none⟩)] 106)).grownBy W3 vF.ownBlock)
    (hat : vF.ownBlock = some g ∨ g = wr.heap.size + 1) :
    GaW H pb rb fb vb it w0 L (i + 1) nA (nF + 1) F vA (.slice (some ⟨g, 0, none⟩) (nF + 1) cap) xA (xF ++ [.pointer (some ⟨b2, 0, none⟩)]) (W3.setCell ⟨pb, 2, none⟩ (.slice (some ⟨g, 0, none⟩) (nF + 1) cap)) ∧ (W3.setCell ⟨pb, 2, none⟩ (.slice (some ⟨g, 0, none⟩) (nF + 1) cap)).cell? ⟨b2, 0, none⟩ = some (.string a2.name) := by
  have hwd := ws_drop (.inr (.inr (.inr (.inr rfl)))) i _ hw
  have uq := nd_drop i _ hnd
  have hps := ps_drop i L
  have hFd := fresh_drop i L hF
  have hrest := h.rest
  have hwand := h.wand
  have hA := h.hA
  have hFF := h.hF
  rw [hd] at hwd uq hps hFd hrest hwand hA hFF
  obtain ⟨h15, hwe, hwr⟩ := ws_rest (.inr (.inr (.inr (.inr rfl)))) hwd
  have uq := uq_of uq
  have hb2 : H ≤ b2 := hFd.1.2.2 (by unfold placed; omega)
  have hown := hrest.1.2.2
  obtain ⟨cs, hc, hn⟩ : ∃ cs, wr.heap[b2]? = some (.cells cs 105 (0, 0)) ∧ Nam cs 0 a2 := by
    obtain ⟨cs, hc, hn, _⟩ := own_tag hown (n := 17) ht
    exact ⟨cs, hc, hn⟩
  have hp2 : a2.npos ∈ ps (.node b2 o2 a2 x y) := po_ps (by unfold po; rw [ht]; simp [named])
  have hH := Nat.le_trans h.ge.1 (Nat.le_of_lt (Array.getElem?_eq_some_iff.1 h.blk).1)
  -- world by world
  have q1 : ∀ k, k ≠ b2 → (wr.setCell ⟨b2, 2, none⟩ (.int .i64 nF)).heap[k]? = wr.heap[k]? := fun k hk => Below.heap_setCell _ _ _ _ hk
  have s1 : (wr.setCell ⟨b2, 2, none⟩ (.int .i64 (nF : Int))).heap.size = wr.heap.size := by simp [World.setCell]
  have z1 : (wr.setCell ⟨b2, 2, none⟩ (.int .i64 (nF : Int))).heap[b2]? = some (.cells (cs.setIfInBounds 2 (.int .i64 nF)) 105 (0, 0)) := heap_set _ hc
  have q2 : ∀ k, k < wr.heap.size → ((wr.setCell ⟨b2, 2, none⟩ (.int .i64 nF)).alloc (.cells #[.pointer (some ⟨b2, 0, none⟩)] 106)).heap[k]? = (wr.setCell ⟨b2, 2, none⟩ (.int .i64 nF)).heap[k]? := fun k hk => Below.heap_alloc _ _ _ (by rw [s1]; exact hk)
  have s2 : ((wr.setCell ⟨b2, 2, none⟩ (.int .i64 (nF : Int))).alloc (.cells #[.pointer (some ⟨b2, 0, none⟩)] 106)).heap.size = wr.heap.size + 1 := by simp [World.setCell]
  have q3 : ∀ k, k < wr.heap.size → vF.ownBlock ≠ some k → W3.heap[k]? = ((wr.setCell ⟨b2, 2, none⟩ (.int .i64 nF)).alloc (.cells #[.pointer (some ⟨b2, 0, none⟩)] 106)).heap[k]? := fun k hk hne => grow.block k (by rw [s2]; omega) (fun e => hne e.symm)
  have hvk : ∀ (k : Nat) (c : Array Value) (t : TypeId), wr.heap[k]? = some (.cells c t (0, 0)) → t ≠ 106 → vF.ownBlock ≠ some k := by
    intro k c t hk hne e
    obtain ⟨⟨c2, hc2⟩, _⟩ := own_typ h.ownF e
    exact ne_typ hk hc2 hne rfl
  have hvm : ∀ k n l, Mp wr k n l → vF.ownBlock ≠ some k := by
    intro k n l hk e
    obtain ⟨⟨c2, hc2⟩, _⟩ := own_typ h.ownF e
    exact hk.ne_cells hc2 rfl
  have hgpb : g ≠ pb := by
    rcases hat with e | e
    · intro e2; rw [e2] at e; exact hvk pb _ _ h.prog (by decide) e
    · have := (Array.getElem?_eq_some_iff.1 h.prog).1; omega
  have cellsK : ∀ (k : Nat) (c : Array Value) (t : TypeId), wr.heap[k]? = some (.cells c t (0, 0)) → t ≠ 106 → k ≠ b2 → W3.heap[k]? = some (.cells c t (0, 0)) := by
    intro k c t hk hne hkb
    have hlt := (Array.getElem?_eq_some_iff.1 hk).1
    rw [q3 k hlt (hvk k c t hk hne), q2 k hlt, q1 k hkb]; exact hk
  have pb2 : pb ≠ b2 := ne_typ h.prog hc (by decide)
  have rb2 : rb ≠ b2 := ne_typ h.blk hc (by decide)
  have rpb : rb ≠ pb := ne_typ h.blk h.prog (by decide)
  have prog3 := cellsK pb _ _ h.prog (by decide) pb2
  have mapK : ∀ k n l, Mp wr k n l → Mp (W3.setCell ⟨pb, 2, none⟩ (.slice (some ⟨g, 0, none⟩) (nF + 1) cap)) k n l := by
    intro k n l hk
    have hlt := hk.lt
    refine hk.same ((Below.heap_setCell _ _ _ _ (hk.ne_cells h.prog)).trans ?_)
    rw [q3 k hlt (hvm k n l hk), q2 k hlt, q1 k (hk.ne_cells hc)]
  have hb3 : W3.heap[b2]? = some (.cells (cs.setIfInBounds 2 (.int .i64 nF)) 105 (0, 0)) := by
    have hlt := (Array.getElem?_eq_some_iff.1 hc).1
    rw [q3 b2 hlt (hvk b2 _ _ hc (by decide)), q2 b2 hlt]; exact z1
  -- frames
  have f1 : Fw H (Pone a2.npos) wr (wr.setCell ⟨b2, 2, none⟩ (.int .i64 nF)) := (Fw.refl _ _ _).write hc hb2 (by omega) hn.2.1 ⟨by simp, rfl⟩ _
  have f2 := f1.alloc (.cells #[.pointer (some ⟨b2, 0, none⟩)] 106) (by rw [s1]; exact hH)
  have f3 : Fw H (Pone a2.npos) wr W3 := f2.grown grow (by rw [s2]; omega) (fun k hk => by
    obtain ⟨⟨c2, hc2⟩, hb⟩ := own_typ h.ownF hk
    refine ⟨hb, fun c t ht2 e => ?_⟩
    have hlt := (Array.getElem?_eq_some_iff.1 hc2).1
    rw [q2 k hlt, q1 k (ne_typ hc2 hc (by decide)), hc2] at e
    simp only [Option.some.injEq, Obj.cells.injEq] at e
    rw [← e.2.1] at ht2
    exact absurd ht2 (by unfold treeTyp0; decide))
  have f4 : Fw H (Pone a2.npos) wr (W3.setCell ⟨pb, 2, none⟩ (.slice (some ⟨g, 0, none⟩) (nF + 1) cap)) := f3.set h.ge.2.1 (fun c t ht2 e => by
    rw [prog3] at e
    simp only [Option.some.injEq, Obj.cells.injEq] at e
    rw [← e.2.1] at ht2
    exact absurd ht2 (by unfold treeTyp0; decide)) _ _
  have hb4 : (W3.setCell ⟨pb, 2, none⟩ (.slice (some ⟨g, 0, none⟩) (nF + 1) cap)).heap[b2]? = some (.cells (cs.setIfInBounds 2 (.int .i64 nF)) 105 (0, 0)) := (Below.heap_setCell _ _ _ _ pb2.symm).trans hb3
  have kids : ∀ t s, Ws s t → IsT wr t → (∀ p ∈ ps t, p ≠ a2.npos) → IsT (W3.setCell ⟨pb, 2, none⟩ (.slice (some ⟨g, 0, none⟩) (nF + 1) cap)) t := fun t s hw hi hp => IsT.fw f4 Pone.pos hw hi (fun p hp2 ty hq => hp p hp2 hq.2)
  have ue := uq_of (b := b2) (o := o2) uq.left
  have hpo : a2.npos ∈ po a2 := by unfold po; rw [ht]; simp [named]
  have hT4 : IsT (W3.setCell ⟨pb, 2, none⟩ (.slice (some ⟨g, 0, none⟩) (nF + 1) cap)) (.node b2 o2 { a2 with which := (nF : Int) } x y) := by
    obtain ⟨_, sx, sy, _, hwx, hwy⟩ := hwe.parts
    refine ⟨kids x _ hwx hrest.1.1 (fun p hp e => ue.own_l _ hpo (e ▸ hp)), kids y _ hwy hrest.1.2.1 (fun p hp e => ue.own_r _ hpo (e ▸ hp)), own_wr2 hown (by omega) (fun c t hct => ?_)⟩
    rw [hc] at hct
    simp only [Option.some.injEq, Obj.cells.injEq] at hct
    obtain ⟨rfl, rfl, _⟩ := hct
    exact hb4
  refine ⟨⟨?_, ?_, mapK _ _ _ h.first, mapK _ _ _ h.vars, h.ne, h.ge, h.fr.trans (f4.mono fun t p hp => ⟨hp.1, hps p (ps_left (by rw [hp.2]; exact hp2))⟩), ?_, ?_, ?_, ?_, ?_, ?_, ?_⟩, ?_⟩
  · exact (Below.heap_setCell _ _ _ _ rpb).trans (cellsK rb _ _ h.blk (by decide) rb2)
  · exact heap_set (o := 2) _ prog3
  · rw [hd2]
    exact kids r _ hwr hrest.2.1 (fun p hp e => by subst e; exact uq.apart _ hp2 hp)
  · intro w2 hx hi
    rw [hd2] at hx hi
    refine hwand w2 ((f4.mono fun t p hp => ⟨hp.1, ps_left (by rw [hp.2]; exact hp2)⟩).trans (hx.mono fun t p hp => ⟨hp.1, ps_right hp.2⟩)) ?_
    have e1 : gaT (.node b o a (.node b2 o2 a2 x y) r) nA nF = .node b o a (.node b2 o2 { a2 with which := (nF : Int) } x y) (gaT r nA (nF + 1)) := by
      show (if a2.tag = 16 then _ else _) = _
      rw [if_neg (by omega)]
      rfl
    rw [e1]
    refine ⟨?_, hi, by unfold Own; rw [h15]; trivial⟩
    have hsh : Sh (.node b2 o2 a2 x y) (.node b2 o2 { a2 with which := (nF : Int) } x y) := ⟨rfl, rfl, rfl, rfl, rfl, rfl, rfl, rfl, fun e => by omega, fun _ => rfl, Sh.refl _, Sh.refl _⟩
    exact IsT.fw hx PA.pos (hsh.ws hwe) hT4 (fun p hp ty hq => by rw [hsh.ps] at hp; exact uq.apart p hp hq.2)
  · refine own_move h.ownA (fun k hk => ?_)
    obtain ⟨⟨c2, hc2⟩, _⟩ := own_typ h.ownA hk
    rw [hc2]
    exact (Below.heap_setCell _ _ _ _ (ne_typ hc2 h.prog (by decide))).trans (cellsK k _ _ hc2 (by decide) (ne_typ hc2 hc (by decide)))
  · refine ⟨own.1, ?_⟩
    rcases own.2 with ⟨hx, _⟩ | ⟨g', cap', cur, hv', hb', hh, r'⟩
    · cases hx
    · refine .inr ⟨g', cap', cur, hv', hb', ?_, r'⟩
      simp only [Value.slice.injEq, Option.some.injEq, Addr.mk.injEq] at hv'
      obtain ⟨⟨rfl, _, _⟩, _, _⟩ := hv'
      exact (Below.heap_setCell _ _ _ _ hgpb).trans hh
  · rw [hd2, ← hA]
    show _ = xA ++ (if a2.tag = 16 then _ else _)
    rw [if_neg (by omega)]
  · rw [hd2, List.append_assoc, ← hFF]
    show _ = xF ++ (if a2.tag = 17 then _ else _)
    rw [if_pos ht]
    rfl
  · have := h.cnt; omega
  · rw [cell_of_row _ _ _ _ _ _ hb4, Array.getElem?_setIfInBounds_ne (by omega)]; exact hn.1

theorem GaW.fin (h : GaW H pb rb fb vb it w0 L (lenL L) nA nF F vA vF xA xF wr) : IsT wr (gaT L 0 0) ∧ xA = ptrs 16 L ∧ xF = ptrs 17 L := by
  have h1 := h.wand
  have h2 := h.hA
  have h3 := h.hF
  rw [dropL_end] at h1 h2 h3
  exact ⟨h1 wr (Fw.refl _ _ _) trivial, by simpa [ptrs] using h2, by simpa [ptrs] using h3⟩
end Go.Proofs.YtikffmloeifkpaaGreatDoor

/- Package names: gather. -/
namespace Go.Proofs.YtikffmloeifkpaaGreatDoor
open Go.RowKit Go.Lib Go.Deep Go.ChangeMaps Go.MapKept
variable {H pb rb fb vb : Nat}

theorem Tryz.infoPA : (Tryz.prog.info? 192).map (fun i => (i.zero, i.size, i.bytes)) = some (some (.pointer none), 1, 8) := by kernel_rfl
theorem Tryz.infoPF : (Tryz.prog.info? 106).map (fun i => (i.zero, i.size, i.bytes)) = some (some (.pointer none), 1, 8) := by kernel_rfl
/-- An element of the items, where it lies. -/
theorem lst_cell8 {w w0 : World} {t : Tr} (h : Ws 8 t) {P : TypeId → Int → Prop} (hi : IsT w0 t) (hx : Fw H P w0 w) (hP : ∀ t p, P t p → posTyp t) (hN : ∀ p, ¬ P 100 p) {ao : Option Addr} {n cp i : Nat} (hv : valT t = .slice ao n cp) {b o : Nat} {a : Nd} {e r : Tr} (hd : dropL i (elems t) = .node b o a e r) (hE : ∃ b o a l r, e = .node b o a l r ∧ a.tag ≠ 19 ∧ a.tag ≠ 7) :
    ∃ g, ao = some ⟨g, 0, none⟩ ∧ w.cell? ⟨g, i, none⟩ = some (valT e) := by
  rcases h.lst (.inr (.inr (.inr (.inr rfl)))) with rfl | ⟨b0, o0, a0, l0, rfl, ht, _⟩
  · cases i <;> cases hd
  · have hv2 : valT (.node b0 o0 a0 l0 .nil) = .slice (some ⟨b0, 0, none⟩) (lenL l0) o0 := if_pos ht
    rw [hv2] at hv
    simp only [Value.slice.injEq] at hv
    refine ⟨b0, hv.1.symm, ?_⟩
    have ho := hi.2.2
    have hne : l0 ≠ .nil := (own_tag ho (n := 20) ht).1
    have hpo : po a0 = [] := by unfold po; rw [ht]; rfl
    have o2 : Own w b0 a0 l0 .nil := OwnN.fw hx hP ho (fun p hp => by rw [hpo] at hp; cases hp) (fun e => ⟨h.list e hne, fun p _ hq => absurd hq (hN p)⟩)
    obtain ⟨_, cs, hc, hr⟩ := own_tag o2 (n := 20) ht
    have h1 := rowOk_drop i 0 l0 hr
    replace hd : dropL i l0 = .node b o a e r := hd
    rw [hd, Nat.zero_add] at h1
    obtain ⟨b2, o2, a2, l2, r2, rfl, h19, h7⟩ := hE
    have h2 : (if a2.tag = 19 then Nam cs (i * 3) a2 else if a2.tag = 7 then cs[i]? = some (ptrT (.node b2 o2 a2 l2 r2)) else cs[i]? = some (valT (.node b2 o2 a2 l2 r2))) := h1.1
    rw [if_neg h19, if_neg h7] at h2
    rw [cell_of_row _ _ _ _ _ _ hc]
    exact h2
theorem method_arr (a : Addr) (w : World) : (method 603 192 (.pointer (some a)) "Declared").run Tryz.prog w = .ok (384, .pointer (some a)) w := by kernel_rfl
theorem method_fun (a : Addr) (w : World) : (method 603 106 (.pointer (some a)) "Declared").run Tryz.prog w = .ok (382, .pointer (some a)) w := by kernel_rfl
theorem PA.noName {L : Tr} (p : Int) : ¬ PA L 100 p := fun h => by rcases h.1 with h | h <;> exact absurd h (by decide)

set_option maxRecDepth 100000 in
set_option maxHeartbeats 16000000 in
theorem gather_any {t : Tr} (hw : Ws 8 t) (hF : Fresh H t) (hnd : (ps t).Nodup) (w : World) (hi : IsT w t) (h : GaW H pb rb fb vb (valT t) w (elems t) 0 0 0 [] (.slice none 0 0) (.slice none 0 0) [] [] w) :
    Calls Tryz.prog 72 #[.pointer (some ⟨rb, 0, none⟩)] w fun e w' => e = .returned (.tuple #[]) ∧ ∃ nA nF vA vF, GaW H pb rb fb vb (valT t) w (elems t) (lenL (elems t)) nA nF (gaF (elems t) 0 []) vA vF (ptrs 16 (elems t)) (ptrs 17 (elems t)) w' := by
  obtain ⟨iA, hiA, hA0, hA1, hA2⟩ := info_parts Tryz.infoPA
  obtain ⟨iF, hiF, hF0, hF1, hF2⟩ := info_parts Tryz.infoPF
  obtain ⟨ao, cp, hvl⟩ := hw.lstval (.inr (.inr (.inr (.inr rfl))))
  have hlen := lenV_le (.inr (.inr (.inr (.inr rfl)))) hw
  have hlv := lenV_elems t
  have HLV : Hid _ := hlv
  have hps := ps_elems (.inr (.inr (.inr (.inr rfl)))) hw
  have HND : Hid ((ps (elems t)).Nodup) := by rw [Hid, ← hps]; exact hnd
  have HWE : Hid (Ws 18 (elems t)) := hw.elems (.inr (.inr (.inr (.inr rfl))))
  have HW : Hid (Ws 8 t) := hw
  have HF : Hid (Fresh H (elems t)) := fresh_elems hF
  have HI : Hid (IsT w t) := hi
  have c0 : w.cell? ⟨rb, 0, none⟩ = some (.pointer (some ⟨pb, 0, none⟩)) := by rw [cell_of_row _ _ _ _ _ _ h.blk]; rfl
  have p0 : w.cell? ⟨pb, 0, none⟩ = some (valT t) := by rw [cell_of_row _ _ _ _ _ _ h.prog]; rfl
  rw [hvl] at p0 h
  have G0 : Hid _ := h
  clear h hw hF hnd hi hlv hps
  go_enter Tryz.func72, Tryz.ntmps72
  go_wp2_with fail
  go_loopg [19] (lenV t) (fun m v wr => ∃ (i nA nF : Nat) (F : Ents) (vA vF : Value) (xA xF : List Value), v = .int .i64 i ∧ i ≤ lenV t ∧ lenV t ≤ i + m ∧ GaW H pb rb fb vb (.slice ao (lenV t) cp) w (elems t) i nA nF F vA vF xA xF wr ∧ gaF (dropL i (elems t)) i F = gaF (elems t) 0 [] ∧ F.length ≤ i)
  case atStart => exact ⟨0, 0, 0, [], _, _, [], [], rfl, Nat.zero_le _, by omega, G0.out, rfl, Nat.le_refl _⟩
  case round =>
    clear c0 p0
    obtain ⟨i, nA, nF, F, vA, vF, xA, xF, rfl, hle, hm, G, hrun, hFl⟩ := hrel
    have HG : Hid _ := G
    have HRUN : Hid _ := hrun
    clear hrun
    by_cases hlt : i < lenV t
    · have hltI : (i : Int) < (lenV t : Int) := by omega
      obtain ⟨b1, o1, a1, e1, r1, hd, hd2⟩ := dropL_lt i (elems t) (by rw [← HLV.out]; exact hlt)
      have hwd := ws_drop (.inr (.inr (.inr (.inr rfl)))) i _ HWE.out
      rw [hd] at hwd
      obtain ⟨h15, hwe, _⟩ := ws_rest (.inr (.inr (.inr (.inr rfl)))) hwd
      obtain ⟨b2, o2, a2, x, y, rfl, htag⟩ := item_of hwe
      obtain ⟨gg, rfl, hcell⟩ := lst_cell8 HW.out HI.out G.fr PA.pos PA.noName hvl hd ⟨b2, o2, a2, x, y, rfl, by omega, by omega⟩
      have hv : valT (.node b2 o2 a2 x y) = .iface (ityp a2.tag) (.pointer (some ⟨b2, 0, none⟩)) := if_neg (by omega)
      rw [hv] at hcell
      have hrest := G.rest
      rw [hd] at hrest
      have hnm : a2.name.size ≤ maxLen := by have := hwe.parts.1.name; unfold maxLen; omega
      obtain ⟨aoA, cpA, rfl, haA⟩ := slice_any G.ownA
      obtain ⟨aoF, cpF, rfl, haF⟩ := slice_any G.ownF
      have hnA : nA ≤ 10000 := by have := G.cnt; omega
      have hnF : nF ≤ 10000 := by have := G.cnt; omega
      have hge := G.ge
      have hsz := (Array.getElem?_eq_some_iff.1 G.blk).1
      have hpbl := (Array.getElem?_eq_some_iff.1 G.prog).1
      rcases htag with ht | ht
      · have t1 := fun q => ta_arr_hit q wr
        have t2 := fun q => ta_arr_miss q wr
        have t3 := fun q => ta_fun_hit q wr
        obtain ⟨cs, hc, hnam, _⟩ := own_tag hrest.1.2.2 (n := 16) ht
        have m2 : wr.cell? ⟨b2, 2, none⟩ = some (.int .i64 a2.which) := by rw [cell_of_row _ _ _ _ _ _ hc]; exact hnam.2.2
        have z2 : wr.frozen? ⟨b2, 2, none⟩ = false := by simp [World.frozen?, hc]
        have p1 : wr.cell? ⟨pb, 1, none⟩ = some (.slice aoA nA cpA) := by rw [cell_of_row _ _ _ _ _ _ G.prog]; rfl
        have pz : wr.frozen? ⟨pb, 1, none⟩ = false := by simp [World.frozen?, G.prog]
        have pne : pb ≠ b2 := ne_typ G.prog hc (by decide)
        have ag : some pb ≠ (Value.slice aoA nA cpA).ownBlock := fun e => by
          obtain ⟨⟨c2, hc2⟩, _⟩ := own_typ G.ownA e.symm
          exact ne_typ G.prog hc2 (by decide) rfl
        have own1 : (wr.setCell ⟨b2, 2, none⟩ (.int .i64 (nA : Int))).ownsRow H 192 1 (.slice aoA nA cpA) nA xA := own_move G.ownA (fun k hk => by
          obtain ⟨⟨c2, hc2⟩, _⟩ := own_typ G.ownA hk
          exact Below.heap_setCell _ _ _ _ (ne_typ hc2 hc (by decide)))
        have s1 : (wr.setCell ⟨b2, 2, none⟩ (.int .i64 (nA : Int))).heap.size = wr.heap.size := by simp [World.setCell]
        have N1 : ((wr.setCell ⟨b2, 2, none⟩ (.int .i64 (nA : Int))).alloc (.cells #[.pointer (some ⟨b2, 0, none⟩)] 192)).heap[pb]? = _ := (Below.heap_alloc _ _ _ (by rw [s1]; exact hpbl)).trans ((Below.heap_setCell _ _ _ _ pne).trans G.prog)
        have L1 : pb < ((wr.setCell ⟨b2, 2, none⟩ (.int .i64 (nA : Int))).alloc (.cells #[.pointer (some ⟨b2, 0, none⟩)] 192)).heap.size := by simp [World.setCell]; omega
        have Y1 : ((wr.setCell ⟨b2, 2, none⟩ (.int .i64 (nA : Int))).alloc (.cells #[.pointer (some ⟨b2, 0, none⟩)] 192)).cell? ⟨pb, 1, none⟩ = some (.slice aoA nA cpA) := by rw [cell_of_row _ _ _ _ _ _ N1]; rfl
        have Y2 : ((wr.setCell ⟨b2, 2, none⟩ (.int .i64 (nA : Int))).alloc (.cells #[.pointer (some ⟨b2, 0, none⟩)] 192)).frozen? ⟨pb, 1, none⟩ = false := by simp [World.frozen?, N1]
        have HY1 : Hid _ := Y1
        have HY2 : Hid _ := Y2
        have HL1 : Hid _ := L1
        have HAG : Hid _ := ag
        have HSTEP : Hid _ := fun g cap w1 => HG.out.stepA (g := g) (cap := cap) (W3 := w1) HWE.out HND.out HF.out hd hd2 ht
        have HF1 : Hid (∀ F2 : Ents, F2 = (if (look a2.name F).isSome then F else put a2.name i F) → gaF (dropL (i + 1) (elems t)) (i + 1) F2 = gaF (elems t) 0 []) := by
          intro F2 hF2
          rw [← HRUN.out, hd, hd2, hF2]
          rfl
        rw [show ityp a2.tag = 192 by rw [ht]; rfl] at hcell
        clear hrest G hwd hwe hv hc hnam N1 L1 Y1 Y2 ag ht h15 hd2 hd HRUN HG
        go_upto_region 13 with (at_builtin; refine wpList_append_lies _ rfl _ _ 108 rfl H 192 iA _ 1 8 Tryz.underlying108 hiA hA0 hA1 hA2 rfl (by omega) (.slice aoA nA cpA) nA xA rfl (own1.alloc _) ⟨wr.heap.size, 0, none⟩ 1 1 [.pointer (some ⟨b2, 0, none⟩)] rfl rfl (World.news_of_block (cs := #[.pointer (some ⟨b2, 0, none⟩)]) (t := 192) (fr := (0, 0)) (by rw [← s1]; exact heap_alloc_new _ _)) (by simp [Value.oneCell']) (by omega) (by unfold maxLen; omega) (by omega) (by simp [World.setCell]; omega) (wr.heap.size + 1) (by simp [World.setCell]) ?_; intro g cap w1 hown1 hgrow hat hlt1; have y1 := (hgrow.cell_far ⟨pb, 1, none⟩ HL1.out HAG.out).trans HY1.out; have y2 := (hgrow.frozen_far ⟨pb, 1, none⟩ HL1.out HAG.out).trans HY2.out)
        obtain ⟨G4, nm4⟩ := HSTEP.out g cap w1 hown1 hgrow hat
        clear HSTEP hown1 hgrow hat y1 y2 HY1 HY2 HL1 HAG own1 s1 m2 z2 p1 pz pne t1 t2 t3 hcell
        generalize w1.setCell ⟨pb, 1, none⟩ (.slice (some ⟨g, 0, none⟩) (nA + 1) cap) = W4 at *
        have me := method_arr ⟨b2, 0, none⟩ W4
        have r1 : W4.cell? ⟨rb, 1, none⟩ = some (.map (some fb)) := by rw [cell_of_row _ _ _ _ _ _ G4.blk]; rfl
        have hlk := G4.first.look_ok a2.name hnm
        obtain ⟨m, rfl⟩ : ∃ m, gk = m + 1 := ⟨gk - 1, by omega⟩
        cases hv : (look a2.name F).isSome
        · rw [hv] at hlk
          have hwf : (Lit.int .i64 (i : Int)).wf = true := by simp [Lit.wf, IntKind.min, IntKind.max, IntKind.bits, IntKind.signed]; omega
          obtain ⟨W5, hrun5, hmp5, ht5⟩ := G4.first.put (by unfold maxLen; omega) a2.name hnm i hwf
          have fin : ∃ (i' nA nF : Nat) (F : Ents) (vA vF : Value) (xA xF : List Value), Value.int .i64 ((i : Int) + 1) = .int .i64 i' ∧ i' ≤ lenV t ∧ lenV t ≤ i' + m ∧ GaW H pb rb fb vb (.slice (some ⟨gg, 0, none⟩) (lenV t) cp) w (elems t) i' nA nF F vA vF xA xF W5 ∧ gaF (dropL i' (elems t)) i' F = gaF (elems t) 0 [] ∧ F.length ≤ i' :=
            ⟨i + 1, _, _, _, _, _, _, _, by simp, by omega, by omega, G4.put HWE.out hmp5 ht5, HF1.out _ (by rw [hv]; rfl), by rw [length_put, hv]; simpa using hFl⟩
          clear hmp5 ht5 HF1 G4 hv
          go_wp2
          go_roundg m
          case rel => exact fin
          case measure => omega
        · rw [hv] at hlk
          have fin : ∃ (i' nA nF : Nat) (F : Ents) (vA vF : Value) (xA xF : List Value), Value.int .i64 ((i : Int) + 1) = .int .i64 i' ∧ i' ≤ lenV t ∧ lenV t ≤ i' + m ∧ GaW H pb rb fb vb (.slice (some ⟨gg, 0, none⟩) (lenV t) cp) w (elems t) i' nA nF F vA vF xA xF W4 ∧ gaF (dropL i' (elems t)) i' F = gaF (elems t) 0 [] ∧ F.length ≤ i' :=
            ⟨i + 1, _, _, _, _, _, _, _, by simp, by omega, by omega, G4, HF1.out _ (by rw [hv]; rfl), by omega⟩
          clear HF1 G4 hv
          go_wp2
          go_roundg m
          case rel => exact fin
          case measure => omega
      · have t1 := fun q => ta_arr_hit q wr
        have t2 := fun q => ta_arr_miss q wr
        have t3 := fun q => ta_fun_hit q wr
        obtain ⟨cs, hc, hnam, _⟩ := own_tag hrest.1.2.2 (n := 17) ht
        have m2 : wr.cell? ⟨b2, 2, none⟩ = some (.int .i64 a2.which) := by rw [cell_of_row _ _ _ _ _ _ hc]; exact hnam.2.2
        have z2 : wr.frozen? ⟨b2, 2, none⟩ = false := by simp [World.frozen?, hc]
        have p1 : wr.cell? ⟨pb, 2, none⟩ = some (.slice aoF nF cpF) := by rw [cell_of_row _ _ _ _ _ _ G.prog]; rfl
        have pz : wr.frozen? ⟨pb, 2, none⟩ = false := by simp [World.frozen?, G.prog]
        have pne : pb ≠ b2 := ne_typ G.prog hc (by decide)
        have ag : some pb ≠ (Value.slice aoF nF cpF).ownBlock := fun e => by
          obtain ⟨⟨c2, hc2⟩, _⟩ := own_typ G.ownF e.symm
          exact ne_typ G.prog hc2 (by decide) rfl
        have own1 : (wr.setCell ⟨b2, 2, none⟩ (.int .i64 (nF : Int))).ownsRow H 106 1 (.slice aoF nF cpF) nF xF := own_move G.ownF (fun k hk => by
          obtain ⟨⟨c2, hc2⟩, _⟩ := own_typ G.ownF hk
          exact Below.heap_setCell _ _ _ _ (ne_typ hc2 hc (by decide)))
        have s1 : (wr.setCell ⟨b2, 2, none⟩ (.int .i64 (nF : Int))).heap.size = wr.heap.size := by simp [World.setCell]
        have N1 : ((wr.setCell ⟨b2, 2, none⟩ (.int .i64 (nF : Int))).alloc (.cells #[.pointer (some ⟨b2, 0, none⟩)] 106)).heap[pb]? = _ := (Below.heap_alloc _ _ _ (by rw [s1]; exact hpbl)).trans ((Below.heap_setCell _ _ _ _ pne).trans G.prog)
        have L1 : pb < ((wr.setCell ⟨b2, 2, none⟩ (.int .i64 (nF : Int))).alloc (.cells #[.pointer (some ⟨b2, 0, none⟩)] 106)).heap.size := by simp [World.setCell]; omega
        have Y1 : ((wr.setCell ⟨b2, 2, none⟩ (.int .i64 (nF : Int))).alloc (.cells #[.pointer (some ⟨b2, 0, none⟩)] 106)).cell? ⟨pb, 2, none⟩ = some (.slice aoF nF cpF) := by rw [cell_of_row _ _ _ _ _ _ N1]; rfl
        have Y2 : ((wr.setCell ⟨b2, 2, none⟩ (.int .i64 (nF : Int))).alloc (.cells #[.pointer (some ⟨b2, 0, none⟩)] 106)).frozen? ⟨pb, 2, none⟩ = false := by simp [World.frozen?, N1]
        have HY1 : Hid _ := Y1
        have HY2 : Hid _ := Y2
        have HL1 : Hid _ := L1
        have HAG : Hid _ := ag
        have HSTEP : Hid _ := fun g cap w1 => HG.out.stepF (g := g) (cap := cap) (W3 := w1) HWE.out HND.out HF.out hd hd2 ht
        have HF1 : Hid (∀ F2 : Ents, F2 = (if (look a2.name F).isSome then F else put a2.name i F) → gaF (dropL (i + 1) (elems t)) (i + 1) F2 = gaF (elems t) 0 []) := by
          intro F2 hF2
          rw [← HRUN.out, hd, hd2, hF2]
          rfl
        rw [show ityp a2.tag = 106 by rw [ht]; rfl] at hcell
        clear hrest G hwd hwe hv hc hnam N1 L1 Y1 Y2 ag ht h15 hd2 hd HRUN HG
        go_upto_region 13 with (at_builtin; refine wpList_append_lies _ rfl _ _ 109 rfl H 106 iF _ 1 8 Tryz.underlying109 hiF hF0 hF1 hF2 rfl (by omega) (.slice aoF nF cpF) nF xF rfl (own1.alloc _) ⟨wr.heap.size, 0, none⟩ 1 1 [.pointer (some ⟨b2, 0, none⟩)] rfl rfl (World.news_of_block (cs := #[.pointer (some ⟨b2, 0, none⟩)]) (t := 106) (fr := (0, 0)) (by rw [← s1]; exact heap_alloc_new _ _)) (by simp [Value.oneCell']) (by omega) (by unfold maxLen; omega) (by omega) (by simp [World.setCell]; omega) (wr.heap.size + 1) (by simp [World.setCell]) ?_; intro g cap w1 hown1 hgrow hat hlt1; have y1 := (hgrow.cell_far ⟨pb, 2, none⟩ HL1.out HAG.out).trans HY1.out; have y2 := (hgrow.frozen_far ⟨pb, 2, none⟩ HL1.out HAG.out).trans HY2.out)
        obtain ⟨G4, nm4⟩ := HSTEP.out g cap w1 hown1 hgrow hat
        clear HSTEP hown1 hgrow hat y1 y2 HY1 HY2 HL1 HAG own1 s1 m2 z2 p1 pz pne t1 t2 t3 hcell
        generalize w1.setCell ⟨pb, 2, none⟩ (.slice (some ⟨g, 0, none⟩) (nF + 1) cap) = W4 at *
        have me := method_fun ⟨b2, 0, none⟩ W4
        have r1 : W4.cell? ⟨rb, 1, none⟩ = some (.map (some fb)) := by rw [cell_of_row _ _ _ _ _ _ G4.blk]; rfl
        have hlk := G4.first.look_ok a2.name hnm
        obtain ⟨m, rfl⟩ : ∃ m, gk = m + 1 := ⟨gk - 1, by omega⟩
        cases hv : (look a2.name F).isSome
        · rw [hv] at hlk
          have hwf : (Lit.int .i64 (i : Int)).wf = true := by simp [Lit.wf, IntKind.min, IntKind.max, IntKind.bits, IntKind.signed]; omega
          obtain ⟨W5, hrun5, hmp5, ht5⟩ := G4.first.put (by unfold maxLen; omega) a2.name hnm i hwf
          have fin : ∃ (i' nA nF : Nat) (F : Ents) (vA vF : Value) (xA xF : List Value), Value.int .i64 ((i : Int) + 1) = .int .i64 i' ∧ i' ≤ lenV t ∧ lenV t ≤ i' + m ∧ GaW H pb rb fb vb (.slice (some ⟨gg, 0, none⟩) (lenV t) cp) w (elems t) i' nA nF F vA vF xA xF W5 ∧ gaF (dropL i' (elems t)) i' F = gaF (elems t) 0 [] ∧ F.length ≤ i' :=
            ⟨i + 1, _, _, _, _, _, _, _, by simp, by omega, by omega, G4.put HWE.out hmp5 ht5, HF1.out _ (by rw [hv]; rfl), by rw [length_put, hv]; simpa using hFl⟩
          clear hmp5 ht5 HF1 G4 hv
          go_wp2
          go_roundg m
          case rel => exact fin
          case measure => omega
        · rw [hv] at hlk
          have fin : ∃ (i' nA nF : Nat) (F : Ents) (vA vF : Value) (xA xF : List Value), Value.int .i64 ((i : Int) + 1) = .int .i64 i' ∧ i' ≤ lenV t ∧ lenV t ≤ i' + m ∧ GaW H pb rb fb vb (.slice (some ⟨gg, 0, none⟩) (lenV t) cp) w (elems t) i' nA nF F vA vF xA xF W4 ∧ gaF (dropL i' (elems t)) i' F = gaF (elems t) 0 [] ∧ F.length ≤ i' :=
            ⟨i + 1, _, _, _, _, _, _, _, by simp, by omega, by omega, G4, HF1.out _ (by rw [hv]; rfl), by omega⟩
          clear HF1 G4 hv
          go_wp2
          go_roundg m
          case rel => exact fin
          case measure => omega
    · have hltI : ¬ (i : Int) < (lenV t : Int) := by omega
      have hi2 : i = lenL (elems t) := by rw [← HLV.out]; omega
      have fin : ∃ nA nF vA vF, GaW H pb rb fb vb (.slice ao (lenV t) cp) w (elems t) (lenL (elems t)) nA nF (gaF (elems t) 0 []) vA vF (ptrs 16 (elems t)) (ptrs 17 (elems t)) wr := by
        subst hi2
        obtain ⟨_, e1, e2⟩ := G.fin
        have e3 := HRUN.out
        rw [dropL_end] at e3
        have e4 : F = gaF (elems t) 0 [] := e3
        rw [e1, e2, e4] at G
        exact ⟨nA, nF, vA, vF, G⟩
      clear hi2 G HG HRUN
      go_wp2
      go_end0
      exact ⟨rfl, fin⟩
end Go.Proofs.YtikffmloeifkpaaGreatDoor

/- Package names: an item. -/
namespace Go.Proofs.YtikffmloeifkpaaGreatDoor
open Go.RowKit Go.Lib Go.Deep Go.ChangeMaps Go.MapKept
variable {H pb rb fb vb : Nat} {pc : Array Value} {F : Ents} {its : List Tr}

/-- An array: how many there are, its length. -/
def Rs.six (s : Rs) (a : Nd) : Rs := if 6 ≤ a.which then s.fail 5 a.npos else s
def badLen (a : Nd) : Bool := decide (a.val < 1) || decide (64 < a.val)
def Rs.arr (s : Rs) (a : Nd) : Rs := if badLen a then (s.six a).fail 5 a.pos else s.six a
theorem six_any {k : Nat} {a : Nd} {l r : Tr} (w : World) (h : Own w k a l r) (ht : a.tag = 16) : w.cell? ⟨k, 2, none⟩ = some (.int .i64 a.which) ∧ w.cell? ⟨k, 1, none⟩ = some (.int .i64 a.npos) ∧ w.cell? ⟨k, 0, none⟩ = some (.string a.name) ∧ w.cell? ⟨k, 3, none⟩ = some (.int .i64 a.val) ∧ w.cell? ⟨k, 4, none⟩ = some (.int .i64 a.pos) := by
  obtain ⟨cs, hc, hn, h3, h4⟩ := own_tag h (n := 16) ht
  exact ⟨by rw [cell_of_row _ _ _ _ _ _ hc]; exact hn.2.2, by rw [cell_of_row _ _ _ _ _ _ hc]; exact hn.2.1, by rw [cell_of_row _ _ _ _ _ _ hc]; exact hn.1, by rw [cell_of_row _ _ _ _ _ _ hc]; exact h3, by rw [cell_of_row _ _ _ _ _ _ hc]; exact h4⟩

set_option maxRecDepth 100000 in
set_option maxHeartbeats 4000000 in
theorem arrayLen_any {b : Nat} {a : Nd} {l r : Tr} (ht : a.tag = 16) (hv : badLen a = true ∨ badLen a = false) (s : Rs) (w : World) (h : RsW H pb rb fb vb pc F s w) (ho : Own w b a l r) :
    Calls Tryz.prog 127 #[.pointer (some ⟨rb, 0, none⟩), .pointer (some ⟨b, 0, none⟩)] w fun e w' => e = .returned (.tuple #[]) ∧ RsW H pb rb fb vb pc F (s.arr a) w' ∧ Fr H F0 w w' := by
  obtain ⟨m2, m1, _, m3, m4⟩ := six_any w ho ht
  by_cases hk : 6 ≤ a.which
  · have h6 : Hid (s.six a = s.fail 5 a.npos) := if_pos hk
    have HO : Hid (Own w b a l r) := ho
    clear ho m3 m4
    rcases hv with hv | hv
    · have hs : Hid (s.arr a = (s.fail 5 a.npos).fail 5 a.pos) := by unfold Hid Rs.arr; rw [hv, h6.out]; rfl
      have hv2 : a.val < 1 ∨ 64 < a.val := by simpa [badLen] using hv
      rcases hv2 with hv2 | hv2
      · go_enter Tryz.func127, Tryz.ntmps127
        go_wp2_with fail
        refine (nfail_any 5 a.npos w h).mono ?_
        rintro e W2 ⟨rfl, h2, x2⟩
        obtain ⟨_, _, _, m3, m4⟩ := six_any W2 (own_fr HO.out x2 F0.body (fun p hp ty hq => hq) (by omega)) ht
        go_wp2_with fail
        refine (nfail_any 5 a.pos W2 h2).mono ?_
        rintro e W3 ⟨rfl, h3, x3⟩
        go_wp2
        go_end0
        exact ⟨rfl, by rw [hs.out]; exact h3, x2.trans x3⟩
      · have hv3 : ¬ a.val < 1 := by omega
        go_enter Tryz.func127, Tryz.ntmps127
        go_wp2_with fail
        refine (nfail_any 5 a.npos w h).mono ?_
        rintro e W2 ⟨rfl, h2, x2⟩
        obtain ⟨_, _, _, m3, m4⟩ := six_any W2 (own_fr HO.out x2 F0.body (fun p hp ty hq => hq) (by omega)) ht
        go_wp2_with fail
        refine (nfail_any 5 a.pos W2 h2).mono ?_
        rintro e W3 ⟨rfl, h3, x3⟩
        go_wp2
        go_end0
        exact ⟨rfl, by rw [hs.out]; exact h3, x2.trans x3⟩
    · have hs : Hid (s.arr a = s.fail 5 a.npos) := by unfold Hid Rs.arr; rw [hv, h6.out]; rfl
      obtain ⟨hv2, hv3⟩ : ¬ a.val < 1 ∧ ¬ 64 < a.val := by simp [badLen] at hv; omega
      go_enter Tryz.func127, Tryz.ntmps127
      go_wp2_with fail
      refine (nfail_any 5 a.npos w h).mono ?_
      rintro e W2 ⟨rfl, h2, x2⟩
      obtain ⟨_, _, _, m3, m4⟩ := six_any W2 (own_fr HO.out x2 F0.body (fun p hp ty hq => hq) (by omega)) ht
      go_wp2
      go_end0
      exact ⟨rfl, by rw [hs.out]; exact h2, x2⟩
  · have h6 : Hid (s.six a = s) := if_neg hk
    clear ho
    rcases hv with hv | hv
    · have hs : Hid (s.arr a = s.fail 5 a.pos) := by unfold Hid Rs.arr; rw [hv, h6.out]; rfl
      have hv2 : a.val < 1 ∨ 64 < a.val := by simpa [badLen] using hv
      rcases hv2 with hv2 | hv2
      · go_enter Tryz.func127, Tryz.ntmps127
        go_wp2_with fail
        refine (nfail_any 5 a.pos w h).mono ?_
        rintro e W3 ⟨rfl, h3, x3⟩
        go_wp2
        go_end0
        exact ⟨rfl, by rw [hs.out]; exact h3, x3⟩
      · have hv3 : ¬ a.val < 1 := by omega
        go_enter Tryz.func127, Tryz.ntmps127
        go_wp2_with fail
        refine (nfail_any 5 a.pos w h).mono ?_
        rintro e W3 ⟨rfl, h3, x3⟩
        go_wp2
        go_end0
        exact ⟨rfl, by rw [hs.out]; exact h3, x3⟩
    · have hs : Hid (s.arr a = s) := by unfold Hid Rs.arr; rw [hv, h6.out]; rfl
      obtain ⟨hv2, hv3⟩ : ¬ a.val < 1 ∧ ¬ 64 < a.val := by simp [badLen] at hv; omega
      go_enter Tryz.func127, Tryz.ntmps127
      go_wp2
      go_end0
      exact ⟨rfl, by rw [hs.out]; exact h, Fr.refl _ _ _⟩

/-- An item: its name must be the first. -/
def Rs.twice (s : Rs) (F : Ents) (a : Nd) (i : Nat) : Rs := if (look a.name F).getD 0 = (i : Int) then s else s.fail 4 a.npos
def itR (F : Ents) (its : List Tr) (t : Tr) (i : Nat) (s : Rs) : Rs := match t with
  | .nil => s
  | .node b o a l r => if a.tag = 16 then (s.twice F a i).arr a else fnR F its (.node b o a l r) (s.twice F a i)
def itT (F : Ents) (its : List Tr) (t : Tr) (i : Nat) (s : Rs) : Tr := match t with
  | .nil => .nil
  | .node b o a l r => if a.tag = 16 then .node b o a l r else fnT F its (.node b o a l r) (s.twice F a i)
theorem func_of {b o : Nat} {a : Nd} {l r : Tr} (h : Ws 7 (.node b o a l r)) (ht : a.tag = 17) : Ws 6 l ∧ ∃ x y z p q, r = .node x y z p q ∧ z.tag = 18 ∧ Ws 5 p ∧ Ws 4 q := by
  obtain ⟨_, sx, sy, hsig, hl, hr⟩ := h.parts
  rw [ht] at hsig
  cases hsig
  refine ⟨hl, ?_⟩
  cases r with
  | nil => exact absurd hr (by unfold Ws nilOk; simp)
  | node x y z p q =>
    obtain ⟨_, sp, sq, hs2, hp, hq⟩ := hr.parts
    have hz : z.tag = 18 := by
      by_cases h : z.tag = 18
      · exact h
      · exfalso; simp [sig, h] at hs2
    rw [hz] at hs2
    cases hs2
    exact ⟨x, y, z, p, q, rfl, hz, hp, hq⟩
theorem ta_arr_any (u : TypeId) (v : Value) (w : World) : (Instr.typeAssert (.iface u v) 151 192 true).run Tryz.prog w = .ok (.tuple #[if u = 192 then v else .pointer none, .bool (decide (u = 192))]) w := ta_iface _ u v w Tryz.underlying192 (by kernel_rfl)
theorem ta_fun_any (u : TypeId) (v : Value) (w : World) : (Instr.typeAssert (.iface u v) 151 106 true).run Tryz.prog w = .ok (.tuple #[if u = 106 then v else .pointer none, .bool (decide (u = 106))]) w := ta_iface _ u v w Tryz.underlying106 (by kernel_rfl)
theorem declA_any (b : Nat) (w : World) : Calls Tryz.prog 384 #[.pointer (some ⟨b, 0, none⟩)] w fun e w' => e = .returned (.pointer (some ⟨b, 0, none⟩)) ∧ w = w' := by
  go_enter Tryz.func384, Tryz.ntmps384
  go_wp2
  go_ret
  exact ⟨rfl, rfl⟩
theorem declF_any (b : Nat) (w : World) : Calls Tryz.prog 382 #[.pointer (some ⟨b, 0, none⟩)] w fun e w' => e = .returned (.pointer (some ⟨b, 0, none⟩)) ∧ w = w' := by
  go_enter Tryz.func382, Tryz.ntmps382
  go_wp2
  go_ret
  exact ⟨rfl, rfl⟩

set_option maxRecDepth 100000 in
set_option maxHeartbeats 4000000 in
theorem item_names {b o : Nat} {a : Nd} {l r : Tr} (hpar : ParOk its) (hw : Ws 7 (.node b o a l r)) (hF : Fresh H (.node b o a l r)) (hnd : (ps (.node b o a l r)).Nodup) (hlets : 20000 + lets (.node b o a l r) ≤ 1000000)
    (i : Nat) (_hi5 : i ≤ 100000) (s : Rs) (w : World) (h : NsW H pb rb fb vb pc F its s w) (hi : IsT w (.node b o a l r)) :
    Calls Tryz.prog 73 #[.pointer (some ⟨rb, 0, none⟩), .int .i64 i, valT (.node b o a l r)] w (PostF H pb rb fb vb pc F its (.node b o a l r) (itT F its (.node b o a l r) i s) (itR F its (.node b o a l r) i s) w) := by
  obtain ⟨_, _, _, _, _, e7, htag⟩ := item_of hw
  simp only [BT.node.injEq] at e7
  obtain ⟨rfl, rfl, rfl, rfl, rfl⟩ := e7
  have hn : a.name.size ≤ maxLen := by have := hw.parts.1.name; unfold maxLen; omega
  have hv : valT (.node b o a l r) = .iface (ityp a.tag) (.pointer (some ⟨b, 0, none⟩)) := if_neg (by omega)
  rw [hv]
  clear hv
  have hown := hi.2.2
  have c1 : w.cell? ⟨rb, 1, none⟩ = some (.map (some fb)) := h.rs.cell 1
  obtain ⟨n0, n1⟩ : w.cell? ⟨b, 0, none⟩ = some (.string a.name) ∧ w.cell? ⟨b, 1, none⟩ = some (.int .i64 a.npos) := by
    rcases htag with ht | ht
    · obtain ⟨cs, hc, hn, _⟩ := own_tag hown (n := 16) ht
      exact ⟨by rw [cell_of_row _ _ _ _ _ _ hc]; exact hn.1, by rw [cell_of_row _ _ _ _ _ _ hc]; exact hn.2.1⟩
    · obtain ⟨cs, hc, hn, _⟩ := own_tag hown (n := 17) ht
      exact ⟨by rw [cell_of_row _ _ _ _ _ _ hc]; exact hn.1, by rw [cell_of_row _ _ _ _ _ _ hc]; exact hn.2.1⟩
  have hlk : ∀ n, (Instr.lookup 147 (.map (some fb)) (.string a.name) false).run Tryz.prog (w.drewN n) = .ok (.int .i64 ((look a.name F).getD 0)) (w.drewN n) := fun n => (h.rs.drewN n).first.look a.name hn
  have t1 := fun u v w => ta_arr_any u v w
  have t2 := fun u v w => ta_fun_any u v w
  have m1 := fun w => method_arr ⟨b, 0, none⟩ w
  have m2 := fun w => method_fun ⟨b, 0, none⟩ w
  rcases htag with ht | ht
  · have hR : itR F its (.node b o a l r) i s = (s.twice F a i).arr a := if_pos ht
    have hT : itT F its (.node b o a l r) i s = .node b o a l r := if_pos ht
    rw [hR, hT, show ityp a.tag = 192 by rw [ht]; rfl]
    have FIN : Hid (∀ W2 W3, Fr H F0 w W2 → Fr H F0 W2 W3 → RsW H pb rb fb vb pc F ((s.twice F a i).arr a) W3 → PostF H pb rb fb vb pc F its (.node b o a l r) (.node b o a l r) ((s.twice F a i).arr a) w (.returned (.tuple #[])) W3) := by
      intro W2 W3 x2 x3 h3
      have x := x2.trans x3
      exact ⟨rfl, h.fr h3 x F0.body, IsT.fr x (fun t p hp => absurd hp id) hw hi (fun _ _ _ h => h), x.mono F0.to⟩
    have HO : Hid (Own w b a l r) := hown
    have HT : Hid (a.tag = 16) := ht
    have hb : badLen a = true ∨ badLen a = false := by cases badLen a <;> simp
    clear hR hT hown hi hw hF hnd hlets hpar
    by_cases hk : (look a.name F).getD 0 = (i : Int)
    · have hs : s.twice F a i = s := if_pos hk
      rw [hs] at FIN ⊢
      have hk' : ((look a.name F).getD 0 != (i : Int)) = false := by simpa using hk
      have hrs := h.rs
      clear hs hk ht h
      go_enter Tryz.func73, Tryz.ntmps73
      go_wp2_with fail
      refine (declA_any b w).mono ?_
      rintro e w' ⟨rfl, rfl⟩
      go_wp2_with fail
      go_quiet (fail)
      go_wp2_with fail
      refine (arrayLen_any HT.out hb s _ (hrs.drewN nq) HO.out).mono ?_
      rintro e W3 ⟨rfl, h3, x3⟩
      go_wp2
      go_end0
      exact FIN.out _ W3 ((Fr.refl H F0 w).drewN nq) x3 h3
    · have hs : s.twice F a i = s.fail 4 a.npos := if_neg hk
      rw [hs] at FIN ⊢
      have hk' : ((look a.name F).getD 0 != (i : Int)) = true := by simpa using hk
      have hrs := h.rs
      clear hs hk ht h
      go_enter Tryz.func73, Tryz.ntmps73
      go_wp2_with fail
      refine (declA_any b w).mono ?_
      rintro e w' ⟨rfl, rfl⟩
      go_wp2_with fail
      go_quiet (fail)
      go_wp2_with fail
      refine (nfail_any 4 a.npos _ (hrs.drewN nq)).mono ?_
      rintro e W2 ⟨rfl, h2, x2⟩
      have o2 : Own W2 b a l r := own_fr (w := w.drewN nq) HO.out x2 F0.body (fun p hp ty hq => hq) (by have := HT.out; omega)
      go_wp2_with fail
      refine (arrayLen_any HT.out hb (s.fail 4 a.npos) W2 h2 o2).mono ?_
      rintro e W3 ⟨rfl, h3, x3⟩
      go_wp2
      go_end0
      exact FIN.out W2 W3 (((Fr.refl H F0 w).drewN nq).trans x2) x3 h3
  · obtain ⟨hwl, x, y, z, p, q, rfl, hz, hwp, hwq⟩ := func_of hw ht
    have hR : itR F its (.node b o a l (.node x y z p q)) i s = fnR F its (.node b o a l (.node x y z p q)) (s.twice F a i) := if_neg (by omega)
    have hT : itT F its (.node b o a l (.node x y z p q)) i s = fnT F its (.node b o a l (.node x y z p q)) (s.twice F a i) := if_neg (by omega)
    rw [hR, hT, show ityp a.tag = 106 by rw [ht]; rfl]
    have hl2 : 20000 + lets p + lets q ≤ 1000000 := by
      rw [lets_node, lets_node] at hlets
      omega
    have FN : Hid (∀ s w, NsW H pb rb fb vb pc F its s w → IsT w (.node b o a l (.node x y z p q)) → _) := function_names hpar ht hz hwl hwp hwq hF hnd hl2
    have KEEP : Hid (∀ W2, Fr H F0 w W2 → IsT W2 (.node b o a l (.node x y z p q))) := fun W2 x2 => IsT.fr x2 (fun t p hp => absurd hp id) hw hi (fun _ _ _ h => h)
    have HN : Hid (NsW H pb rb fb vb pc F its s w) := h
    have hrs := h.rs
    clear hR hT hown hi hw hF hnd hlets hpar h hwl hwp hwq hl2 ht
    by_cases hk : (look a.name F).getD 0 = (i : Int)
    · have hs : s.twice F a i = s := if_pos hk
      rw [hs]
      have hk' : ((look a.name F).getD 0 != (i : Int)) = false := by simpa using hk
      clear hs hk
      go_enter Tryz.func73, Tryz.ntmps73
      go_wp2_with fail
      refine (declF_any b w).mono ?_
      rintro e w' ⟨rfl, rfl⟩
      go_wp2_with fail
      go_quiet (fail)
      have x2 := (Fr.refl H F0 w).drewN nq
      have hcall := FN.out s (w.drewN nq) (HN.out.fr (hrs.drewN nq) x2 F0.body) (KEEP.out _ x2)
      go_wp2_with fail
      refine hcall.mono ?_
      rintro e W3 ⟨rfl, h3, i3, x3⟩
      go_wp2
      go_end0
      exact ⟨rfl, h3, i3, (x2.mono F0.to).trans x3⟩
    · have hs : s.twice F a i = s.fail 4 a.npos := if_neg hk
      rw [hs]
      have hk' : ((look a.name F).getD 0 != (i : Int)) = true := by simpa using hk
      clear hs hk
      go_enter Tryz.func73, Tryz.ntmps73
      go_wp2_with fail
      refine (declF_any b w).mono ?_
      rintro e w' ⟨rfl, rfl⟩
      go_wp2_with fail
      go_quiet (fail)
      go_wp2_with fail
      refine (nfail_any 4 a.npos _ (hrs.drewN nq)).mono ?_
      rintro e W2 ⟨rfl, h2, x2'⟩
      have x2 := ((Fr.refl H F0 w).drewN nq).trans x2'
      have hcall := FN.out (s.fail 4 a.npos) W2 (HN.out.fr h2 x2 F0.body) (KEEP.out _ x2)
      go_wp2_with fail
      refine hcall.mono ?_
      rintro e W3 ⟨rfl, h3, i3, x3⟩
      go_wp2
      go_end0
      exact ⟨rfl, h3, i3, (x2.mono F0.to).trans x3⟩
end Go.Proofs.YtikffmloeifkpaaGreatDoor
