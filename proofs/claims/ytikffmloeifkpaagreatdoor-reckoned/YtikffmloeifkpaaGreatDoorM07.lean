/- The program's contracts, part 7: each says what a function of the program does, for every argument that its premises name. -/
import Derived.Test.YtikffmloeifkpaaGreatDoorM06
import Derived.Deep.LoopGhost
/- Package grammar: chains, lists, comparisons. -/
namespace Go.Proofs.YtikffmloeifkpaaGreatDoor
open Go.RowKit Go.Lib Go.Deep

/-- What a part of the reader leaves: the tree's value, the tree in memory, the reader moved on. -/
def Post (T : List Tok) (g cap b : Nat) (w : World) (q : Rd × Tr) (val : Tr → Value) : Ending → World → Prop :=
  fun e w' => ∃ t, e = .returned (val t) ∧ er t = q.2 ∧ New w.heap.size w' t ∧ RdW T g cap b q.1 w' ∧ Ex b w w'
/-- A function of the reader alone. -/
def Gives (T : List Tok) (g cap b f : Nat) (S : Pr) (D : Rd → Prop) : Prop :=
  ∀ r w, RdW T g cap b r w → D r → Calls Tryz.prog f #[.pointer (some ⟨b, 0, none⟩)] w (Post T g cap b w (S r) valT)
/-- Where a part may be asked for: rank q, fuel n. -/
def Dm (T : List Tok) (n q : Nat) (r : Rd) : Prop := (T.length - r.next) * 16 + q < n ∧ 0 ≤ r.nest ∧ r.nest + n ≤ 1000000
theorem Dm.adv {T : List Tok} {n q : Nat} {r r' : Rd} (h : Dm T n q r) (a : Adv T r r') : Dm T n q r' := by
  obtain ⟨h1, h2, h3⟩ := h
  have := a.ge
  exact ⟨by omega, by rw [a.nest]; exact h2, by rw [a.nest]; exact h3⟩

def fv (f b : Nat) : Value := .func (Fn.func f) #[.pointer (some ⟨b, 0, none⟩)] #[]

theorem stands_next {T : List Tok} {r : Rd} {ks : List Int} (hs : stands T r ks = true) : (r.take T ks).next = r.next + 1 := by
  unfold Rd.take; rw [if_pos hs]; rfl
theorem stands_skip {T : List Tok} {r : Rd} {ks : List Int} (hs : stands T r ks = true) : (r.skips T ks).next = r.next + 1 := by
  unfold Rd.skips; rw [if_pos hs]; rfl
theorem RdW.ends {T : List Tok} {g cap b : Nat} {r : Rd} {w : World} (h : RdW T g cap b r w) : Ends T := h.last

theorem BT_er_node {t : Tr} {a : Nd} {x y : Tr} (b o : Nat) {l r : Tr} (h : t = .node b o a l r) (hl : er l = x) (hr : er r = y) : er t = mk a x y := by subst h hl hr; rfl

set_option maxRecDepth 100000 in
set_option maxHeartbeats 4000000 in
theorem chain_any (T : List Tok) (g cap b f n qr k : Nat) (S : Pr) (ops : List Int) (cp : Nat) (r : Rd) (w : World) (hf : ∀ args wx, (callFunc f args).run Tryz.prog wx = .ok (.enter f args) wx)
    (hS : Gives T g cap b f S (Dm T n qr)) (hG : Goes T S) (hO : So 0 7 S) (h : RdW T g cap b r w) (hd : Dm T n qr r)
    (hk : Kinds w k ops) (hkb : k ≠ b) (hl : ops.length ≤ 100) (h0 : oneOf ops 0 = false) :
    Calls Tryz.prog 352 #[.pointer (some ⟨b, 0, none⟩), fv f b, .slice (some ⟨k, 0, none⟩) ops.length cp] w (Post T g cap b w (chainP T S ops n r) valT) := by
  have HS : Hid (Gives T g cap b f S (Dm T n qr)) := hS
  have HG : Hid (Goes T S) := hG
  have HO : Hid (So 0 7 S) := hO
  clear hS hG hO
  unfold fv
  go_enter Tryz.func352, Tryz.ntmps352
  go_wp2_with fail
  refine (HS.out r w h hd).mono ?_
  rintro e w1 ⟨t, rfl, ht, it, h1, e1⟩
  have HT : Hid (er t = (S r).2) := ht
  clear ht
  have hk1 : Kinds w1 k ops := hk.ex e1 hkb
  have a1 := HG.out r h.lt
  have hd1 := hd.adv a1
  go_wp2_with fail
  go_loopg [7] n (fun m v wr => ∃ (rc : Rd) (tc : Tr), v = valT tc ∧ New w.heap.size wr tc ∧ RdW T g cap b rc wr ∧ Ex b w wr ∧ Kinds wr k ops ∧ Dm T n qr rc ∧ T.length - rc.next ≤ m ∧ (∃ a x y, er tc = mk a x y ∧ 0 ≤ a.tag ∧ a.tag < 7) ∧ chainL T S ops m rc (er tc) = chainP T S ops n r)
  case atStart =>
    refine ⟨_, t, rfl, it, h1, e1, hk1, hd1, ?_, ?_, ?_⟩
    · have := hd1.1; omega
    · rw [HT.out]; exact HO.out r
    · rw [HT.out]; rfl
  case round =>
    obtain ⟨rc, tc, rfl, itc, hc, ec, hkc, hdc, hm, hso, hrun⟩ := hrel
    have HR : Hid (chainL T S ops gk rc (er tc) = chainP T S ops n r) := hrun
    obtain ⟨sa, sx, sy, hse, _, hst⟩ := hso
    obtain ⟨u, p, hv⟩ := val_iface hse (by omega)
    have HV : Hid (valT tc = .iface u (.pointer (some p))) := hv
    have HE : Hid (er tc = mk sa sx sy) := hse
    rw [hv]
    clear hrun hv hse
    go_wp2_with fail
    refine (stands_any T g cap b rc k cp ops wr hc hkc hl).mono ?_
    rintro e w2 ⟨rfl, nn, rfl⟩
    have hc2 := hc.drewN nn
    have ec2 := ec.drewN nn
    have it2 := itc.ex hc ((Ex.refl b wr).drewN nn)
    have hk2 : Kinds (wr.drewN nn) k ops := hkc.ex ((Ex.refl b wr).drewN nn) hkb
    generalize wr.drewN nn = W2 at *
    clear hc itc ec hkc
    cases hs : stands T rc ops
    · have hend : Hid (chainP T S ops n r = (rc, er tc)) := by
        unfold Hid
        rw [← HR.out]
        cases gk with
        | zero => rfl
        | succ gk => show (if _ then _ else _) = _; rw [if_neg (by rw [hs]; decide)]
      go_wp2
      go_ret
      exact ⟨tc, by rw [HV.out]; rfl, by rw [hend.out], it2, by rw [hend.out]; exact hc2, ec2⟩
    · go_wp2_with fail
      refine (take_any T g cap b rc k cp ops W2 hc2 hk2 hl h0).mono ?_
      rintro e W3 ⟨rfl, hc3, e3⟩
      have it3 := it2.ex hc2 e3
      have hk3 := hk2.ex e3 hkb
      have ec3 := ec2.trans e3
      have a3 := adv_take hc2.ends hc2.lt h0
      have hd3 := hdc.adv a3
      have hnx := stands_next hs
      have HN : Hid ((rc.take T ops).next = rc.next + 1) := hnx
      have hlt2 := hc2.lt
      generalize hq : took T rc ops = q at *
      have HQ : Hid (took T rc ops = q) := hq
      clear hnx hq
      rw [Tok.val_eq]
      have h4 := (hc3.alloc (.cells #[.int .i64 q.kind, .int .i64 q.pos, .string q.text, .int .i64 q.value] 143)).drew
      have e4 := ((Ex.refl b W3).alloc (.cells #[.int .i64 q.kind, .int .i64 q.pos, .string q.text, .int .i64 q.value] 143)).drew
      have n4 : (W3.alloc (.cells #[.int .i64 q.kind, .int .i64 q.pos, .string q.text, .int .i64 q.value] 143)).drew.heap[W3.heap.size]? = some (.cells #[.int .i64 q.kind, .int .i64 q.pos, .string q.text, .int .i64 q.value] 143 (0, 0)) := heap_alloc_new W3 _
      have hne : W3.heap.size ≠ b := by have := hc3.size; omega
      go_wp2_with fail
      have m0 := (four_cells n4).1
      have m1 := (four_cells n4).2.1
      go_region_held3 (fun w' => w'.cell? ⟨W3.heap.size, 0, none⟩ = some (.int .i64 q.kind) ∧ w'.cell? ⟨W3.heap.size, 1, none⟩ = some (.int .i64 q.pos))
        (first
          | (refine ⟨?_, ?_⟩ <;> assumption)
          | go_keep)
        ((refine step_call rfl f #[.pointer (some ⟨b, 0, none⟩)] _ (by go_simp) (HS.out _ _ h4 hd3) ?_; rintro e W5 ⟨t5, rfl, ht5, it5, h5, e5⟩; refine ⟨_, rfl, ?_⟩; have HT5 : Hid (er t5 = (S (rc.take T ops)).2) := ht5; clear ht5; have n5 := (e5.block W3.heap.size (Array.getElem?_eq_some_iff.1 n4).1 hne).trans n4; have p0 := (four_cells n5).1; have p1 := (four_cells n5).2.1; obtain ⟨ya, yx, yy, hye, _, hyt⟩ := HO.out (rc.take T ops); obtain ⟨u5, p5, hv5⟩ := val_iface (HT5.out.trans hye) (by omega); have HV5 : Hid (valT t5 = .iface u5 (.pointer (some p5))) := hv5; rw [hv5]; clear hv5 hye))
      obtain ⟨m, rfl⟩ : ∃ m, gk = m + 1 := ⟨gk - 1, by omega⟩
      have a5 := a3.trans (HG.out _ a3.lt)
      have hd5 := hdc.adv a5
      have ic5 := (it3.ex hc3 e4).ex h4 e5
      have e6 := (Ex.refl b W5).alloc (.cells #[.int .i64 q.kind, .int .i64 q.pos, .iface u (.pointer (some p)), .iface u5 (.pointer (some p5)), .int .i64 0] 405)
      have fin : ∃ (rc : Rd) (tc : Tr), Value.iface 403 (.pointer (some ⟨W5.heap.size, 0, none⟩)) = valT tc ∧ New w.heap.size (W5.alloc (.cells #[.int .i64 q.kind, .int .i64 q.pos, .iface u (.pointer (some p)), .iface u5 (.pointer (some p5)), .int .i64 0] 405)) tc ∧
          RdW T g cap b rc (W5.alloc (.cells #[.int .i64 q.kind, .int .i64 q.pos, .iface u (.pointer (some p)), .iface u5 (.pointer (some p5)), .int .i64 0] 405)) ∧
          Ex b w (W5.alloc (.cells #[.int .i64 q.kind, .int .i64 q.pos, .iface u (.pointer (some p)), .iface u5 (.pointer (some p5)), .int .i64 0] 405)) ∧
          Kinds (W5.alloc (.cells #[.int .i64 q.kind, .int .i64 q.pos, .iface u (.pointer (some p)), .iface u5 (.pointer (some p5)), .int .i64 0] 405)) k ops ∧ Dm T n qr rc ∧ T.length - rc.next ≤ m ∧
          (∃ a x y, er tc = mk a x y ∧ 0 ≤ a.tag ∧ a.tag < 7) ∧ chainL T S ops m rc (er tc) = chainP T S ops n r := by
        refine ⟨_, .node W5.heap.size 0 { tag := 6, op := q.kind, pos := q.pos } tc t5, rfl, New.node (ic5.ex h5 e6) ((it5.ex h5 e6).mono (ec3.trans e4).size) (fun _ => ((ec3.trans e4).trans e5).size) (by simp) ?_, h5.alloc _, ((ec3.trans e4).trans e5).alloc _, ((hk3.ex e4 hkb).ex e5 hkb).alloc _, hd5, ?_, ⟨_, _, _, rfl, by simp, by simp⟩, ?_⟩
        · exact ⟨_, heap_alloc_new W5 _, rfl, rfl, by rw [HV.out]; rfl, by rw [HV5.out]; rfl, rfl⟩
        · have := (HG.out _ a3.lt).ge
          have := HN.out
          omega
        · rw [← HR.out]
          show _ = (if _ then _ else _)
          rw [if_pos hs, HQ.out]
          show chainL T S ops m _ (.node 0 0 _ (er tc) (er t5)) = _
          rw [HT5.out]
          rfl
      clear HR HS HG HO HT HV HE HN HQ HT5 HV5 it2 it3 it5 ic5 hc2 hc3 h4 h5 e3 e4 e5 e6 a3 a5 hd3 hd5 hdc ec2 ec3 hk2 hk3
      go_wp2
      go_roundg m
      case rel => exact fin
      case measure => omega
end Go.Proofs.YtikffmloeifkpaaGreatDoor

/- Package grammar: conditions, comparisons. -/
namespace Go.Proofs.YtikffmloeifkpaaGreatDoor
open Go.RowKit Go.Lib Go.Deep

set_option maxRecDepth 100000 in
set_option maxHeartbeats 4000000 in
theorem logic_any (T : List Tok) (g cap b f n qr : Nat) (S : Pr) (op : Int) (r : Rd) (w : World) (hf : ∀ args wx, (callFunc f args).run Tryz.prog wx = .ok (.enter f args) wx)
    (hS : Gives T g cap b f S (Dm T n qr)) (hG : Goes T S) (hO : So 7 9 S) (h : RdW T g cap b r w) (hd : Dm T n qr r) (h0 : oneOf [op] 0 = false) :
    Calls Tryz.prog 333 #[.pointer (some ⟨b, 0, none⟩), .int .i64 op, fv f b] w (Post T g cap b w (logicP T S op n r) valT) := by
  have HS : Hid (Gives T g cap b f S (Dm T n qr)) := hS
  have HG : Hid (Goes T S) := hG
  have HO : Hid (So 7 9 S) := hO
  clear hS hG hO
  unfold fv
  go_enter Tryz.func333, Tryz.ntmps333
  go_wp2_with fail
  refine (HS.out r w h hd).mono ?_
  rintro e w1 ⟨t, rfl, ht, it, h1, e1⟩
  have HT : Hid (er t = (S r).2) := ht
  clear ht
  have a1 := HG.out r h.lt
  have hd1 := hd.adv a1
  go_wp2_with fail
  go_loopg [7] n (fun m v wr => ∃ (rc : Rd) (tc : Tr), v = valT tc ∧ New w.heap.size wr tc ∧ RdW T g cap b rc wr ∧ Ex b w wr ∧ Dm T n qr rc ∧ T.length - rc.next ≤ m ∧ (∃ a x y, er tc = mk a x y ∧ 7 ≤ a.tag ∧ a.tag < 9) ∧ logicL T S op m rc (er tc) = logicP T S op n r)
  case atStart =>
    refine ⟨_, t, rfl, it, h1, e1, hd1, ?_, ?_, ?_⟩
    · have := hd1.1; omega
    · rw [HT.out]; exact HO.out r
    · rw [HT.out]; rfl
  case round =>
    obtain ⟨rc, tc, rfl, itc, hc, ec, hdc, hm, hso, hrun⟩ := hrel
    have HR : Hid (logicL T S op gk rc (er tc) = logicP T S op n r) := hrun
    obtain ⟨sa, sx, sy, hse, _, hst⟩ := hso
    obtain ⟨u, p, hv⟩ := val_iface hse (by omega)
    have HV : Hid (valT tc = .iface u (.pointer (some p))) := hv
    have HE : Hid (er tc = mk sa sx sy) := hse
    rw [hv]
    clear hrun hv hse
    have hc2 := hc.alloc (.cells #[.int .i64 op] 141)
    have e2 := (Ex.refl b wr).alloc (.cells #[.int .i64 op] 141)
    have it2 := itc.ex hc e2
    have hk2 := kinds_new wr [op] #[.int .i64 op] rfl
    go_wp2_with fail
    refine (skips_any T g cap b rc wr.heap.size 1 [op] _ hc2 hk2 (by simp) h0).mono ?_
    rintro e W3 ⟨rfl, hc3, e3⟩
    have it3 := it2.ex hc2 e3
    have ec3 := (ec.trans e2).trans e3
    have hlt2 := hc.lt
    have a3 := adv_skips hc.ends hlt2 h0
    have hd3 := hdc.adv a3
    cases hs : stands T rc [op]
    · have hsk : rc.skips T [op] = rc := by unfold Rd.skips; rw [hs]; rfl
      rw [hsk] at hc3
      have hend : Hid (logicP T S op n r = (rc, er tc)) := by
        unfold Hid
        rw [← HR.out]
        cases gk with
        | zero => rfl
        | succ gk => show (if _ then _ else _) = _; rw [if_neg (by rw [hs]; decide)]
      clear hsk
      go_wp2
      go_ret
      exact ⟨tc, by rw [HV.out]; rfl, by rw [hend.out], it3, by rw [hend.out]; exact hc3, ec3⟩
    · have HN : Hid ((rc.skips T [op]).next = rc.next + 1) := stands_skip hs
      go_wp2_with fail
      refine (HS.out _ _ hc3 hd3).mono ?_
      rintro e W5 ⟨t5, rfl, ht5, it5, h5, e5⟩
      have HT5 : Hid (er t5 = (S (rc.skips T [op])).2) := ht5
      obtain ⟨ya, yx, yy, hye, _, hyt⟩ := HO.out (rc.skips T [op])
      obtain ⟨u5, p5, hv5⟩ := val_iface (HT5.out.trans hye) (by omega)
      have HV5 : Hid (valT t5 = .iface u5 (.pointer (some p5))) := hv5
      rw [hv5]
      clear hv5 hye ht5
      obtain ⟨m, rfl⟩ : ∃ m, gk = m + 1 := ⟨gk - 1, by omega⟩
      have a5 := a3.trans (HG.out _ a3.lt)
      have hd5 := hdc.adv a5
      have ic5 := it3.ex hc3 e5
      have e6 := (Ex.refl b W5).alloc (.cells #[.int .i64 op, .iface u (.pointer (some p)), .iface u5 (.pointer (some p5))] 409)
      have fin : ∃ (rc : Rd) (tc : Tr), Value.iface 407 (.pointer (some ⟨W5.heap.size, 0, none⟩)) = valT tc ∧ New w.heap.size (W5.alloc (.cells #[.int .i64 op, .iface u (.pointer (some p)), .iface u5 (.pointer (some p5))] 409)) tc ∧
          RdW T g cap b rc (W5.alloc (.cells #[.int .i64 op, .iface u (.pointer (some p)), .iface u5 (.pointer (some p5))] 409)) ∧
          Ex b w (W5.alloc (.cells #[.int .i64 op, .iface u (.pointer (some p)), .iface u5 (.pointer (some p5))] 409)) ∧ Dm T n qr rc ∧ T.length - rc.next ≤ m ∧
          (∃ a x y, er tc = mk a x y ∧ 7 ≤ a.tag ∧ a.tag < 9) ∧ logicL T S op m rc (er tc) = logicP T S op n r := by
        refine ⟨_, .node W5.heap.size 0 { tag := 8, op := op } tc t5, rfl, New.node (ic5.ex h5 e6) ((it5.ex h5 e6).mono ec3.size) (fun _ => (ec3.trans e5).size) (by simp) ?_, h5.alloc _, (ec3.trans e5).alloc _, hd5, ?_, ⟨_, _, _, rfl, by simp, by simp⟩, ?_⟩
        · exact ⟨_, heap_alloc_new W5 _, rfl, by rw [HV.out]; rfl, by rw [HV5.out]; rfl⟩
        · have := (HG.out _ a3.lt).ge
          have := HN.out
          omega
        · rw [← HR.out]
          show _ = (if _ then _ else _)
          rw [if_pos hs]
          show logicL T S op m _ (.node 0 0 _ (er tc) (er t5)) = _
          rw [HT5.out]
          rfl
      clear HR HS HG HO HT HV HE HN HT5 HV5 it2 it3 it5 ic5 hc2 hc3 h5 e2 e3 e5 e6 a3 a5 hd3 hd5 hdc ec3 hk2 hc itc ec
      go_wp2
      go_roundg m
      case rel => exact fin
      case measure => omega

/-- A pointer to a comparison. -/
def PostP (T : List Tok) (g cap b : Nat) (w : World) (q : Rd × Tr) : Ending → World → Prop := Post T g cap b w q ptrT

set_option maxRecDepth 100000 in
set_option maxHeartbeats 4000000 in
theorem compareOf_any (T : List Tok) (g cap b f n qr : Nat) (S : Pr) (r : Rd) (w : World) (hf : ∀ args wx, (callFunc f args).run Tryz.prog wx = .ok (.enter f args) wx)
    (hS : Gives T g cap b f S (Dm T n qr)) (hG : Goes T S) (hO : So 0 7 S) (h : RdW T g cap b r w) (hd : Dm T n qr r) :
    Calls Tryz.prog 244 #[.pointer (some ⟨b, 0, none⟩), fv f b] w (Post T g cap b w (compareP T S r) ptrT) := by
  have HS : Hid (Gives T g cap b f S (Dm T n qr)) := hS
  have HG : Hid (Goes T S) := hG
  have HO : Hid (So 0 7 S) := hO
  clear hS hG hO
  unfold fv
  have c0 := h.c0
  have c1 := h.c1
  have t1 := h.tok1
  have hltn : (r.next : Int) < (T.length : Int) := by have := h.lt; omega
  have hfew : (T.length : Int) ≤ 5000 := by have := h.few; omega
  generalize hP : (tokAt T r.next).pos = pp at *
  have HP : Hid ((tokAt T r.next).pos = pp) := hP
  clear hP
  go_enter Tryz.func244, Tryz.ntmps244
  go_wp2
  go_quiet (fail)
  go_wp2_with fail
  have hw := h.drewN nq
  have ew := (Ex.refl b w).drewN nq
  clear c0 c1 t1
  generalize w.drewN nq = W0 at *
  refine (HS.out r W0 hw hd).mono ?_
  rintro e W1 ⟨t, rfl, ht, it, h1, e1⟩
  have HT : Hid (er t = (S r).2) := ht
  clear ht
  have a1 := HG.out r h.lt
  obtain ⟨sa, sx, sy, hse, _, hst⟩ := HO.out r
  obtain ⟨u, p, hv⟩ := val_iface (HT.out.trans hse) (by omega)
  have HV : Hid (valT t = .iface u (.pointer (some p))) := hv
  rw [hv]
  clear hv hse
  have h2 := h1.alloc (.cells #[.int .i64 23, .int .i64 24, .int .i64 25, .int .i64 26, .int .i64 21, .int .i64 22] 141)
  have e2 := (Ex.refl b W1).alloc (.cells #[.int .i64 23, .int .i64 24, .int .i64 25, .int .i64 26, .int .i64 21, .int .i64 22] 141)
  have hk2 := kinds_new W1 cmpOps #[.int .i64 23, .int .i64 24, .int .i64 25, .int .i64 26, .int .i64 21, .int .i64 22] rfl
  go_wp2_with fail
  refine (take_any T g cap b (S r).1 W1.heap.size 6 cmpOps _ h2 hk2 (by decide) (by decide)).mono ?_
  rintro e W3 ⟨rfl, hc3, e3⟩
  have it3 := (it.ex h1 e2).ex h2 e3
  have a3 := a1.trans (adv_take h1.ends a1.lt (show oneOf cmpOps 0 = false by decide))
  have hd3 := hd.adv a3
  generalize hq : took T (S r).1 cmpOps = q at *
  have HQ : Hid (took T (S r).1 cmpOps = q) := hq
  clear hq
  rw [Tok.val_eq]
  have h4 := (hc3.alloc (.cells #[.int .i64 q.kind, .int .i64 q.pos, .string q.text, .int .i64 q.value] 143)).drew
  have e4 := ((Ex.refl b W3).alloc (.cells #[.int .i64 q.kind, .int .i64 q.pos, .string q.text, .int .i64 q.value] 143)).drew
  have n4 : (W3.alloc (.cells #[.int .i64 q.kind, .int .i64 q.pos, .string q.text, .int .i64 q.value] 143)).drew.heap[W3.heap.size]? = some (.cells #[.int .i64 q.kind, .int .i64 q.pos, .string q.text, .int .i64 q.value] 143 (0, 0)) := heap_alloc_new W3 _
  have hne : W3.heap.size ≠ b := by have := hc3.size; omega
  go_wp2_with fail
  have m0 := (four_cells n4).1
  go_region_held3 (fun w' => w'.cell? ⟨W3.heap.size, 0, none⟩ = some (.int .i64 q.kind))
    (first
      | assumption
      | go_keep)
    ((refine step_call rfl f #[.pointer (some ⟨b, 0, none⟩)] _ (by go_simp) (HS.out _ _ h4 hd3) ?_; rintro e W5 ⟨t5, rfl, ht5, it5, h5, e5⟩; refine ⟨_, rfl, ?_⟩; have HT5 : Hid (er t5 = (S ((S r).1.take T cmpOps)).2) := ht5; clear ht5; have n5 := (e5.block W3.heap.size (Array.getElem?_eq_some_iff.1 n4).1 hne).trans n4; have p0 := (four_cells n5).1; obtain ⟨ya, yx, yy, hye, _, hyt⟩ := HO.out ((S r).1.take T cmpOps); obtain ⟨u5, p5, hv5⟩ := val_iface (HT5.out.trans hye) (by omega); have HV5 : Hid (valT t5 = .iface u5 (.pointer (some p5))) := hv5; rw [hv5]; clear hv5 hye))
  go_wp2
  go_ret
  have ic5 := (it3.ex hc3 e4).ex h4 e5
  have e6 := (Ex.refl b W5).alloc (.cells #[.int .i64 q.kind, .int .i64 pp, .iface u (.pointer (some p)), .iface u5 (.pointer (some p5))] 271)
  refine ⟨.node W5.heap.size 0 { tag := 7, op := q.kind, pos := pp } t t5, rfl, ?_, New.node ((ic5.ex h5 e6).mono ew.size) ((it5.ex h5 e6).mono ((((ew.trans e1).trans e2).trans e3).trans e4).size) (fun _ => (((((ew.trans e1).trans e2).trans e3).trans e4).trans e5).size) (by simp) ?_, h5.alloc _, (((((ew.trans e1).trans e2).trans e3).trans e4).trans e5).alloc _⟩
  · unfold compareP
    rw [HQ.out, HP.out, ← HT.out, ← HT5.out]
    rfl
  · exact ⟨_, heap_alloc_new W5 _, rfl, rfl, by rw [HV.out]; rfl, by rw [HV5.out]; rfl⟩
end Go.Proofs.YtikffmloeifkpaaGreatDoor

/- Package grammar: rows of parts, plain facts. -/
namespace Go.Proofs.YtikffmloeifkpaaGreatDoor
open Go.RowKit Go.Lib Go.Deep

def elemCells : Tr → List Value
  | .nil => []
  | .node b o a l r => if a.tag = 19 then [.string a.name, .int .i64 a.npos, .int .i64 a.which] else if a.tag = 7 then [ptrT (.node b o a l r)] else [valT (.node b o a l r)]
def rowCells : Tr → List Value
  | .nil => []
  | .node _ _ _ e r => elemCells e ++ rowCells r
/-- Two lists in a row. -/
def app : Tr → Tr → Tr
  | .nil, y => y
  | .node b o a e r, y => .node b o a e (app r y)
def snoc (l e : Tr) : Tr := app l (cons e .nil)
/-- Every element has so many cells. -/
def Sized (sz : Nat) : Tr → Prop
  | .nil => True
  | .node _ _ a e r => a.tag = 15 ∧ (∃ b o a l q, e = .node b o a l q ∧ (a.tag = 19 ↔ sz = 3)) ∧ (elemCells e).length = sz ∧ Sized sz r

theorem app_nil (l : Tr) : app l .nil = l := by
  induction l with
  | nil => rfl
  | node b o a e r _ ih => simp only [app, ih]
theorem app_snoc (l e r : Tr) : app (snoc l e) r = app l (cons e r) := by
  induction l with
  | nil => rfl
  | node b o a x q _ ih => simp only [snoc, app] at ih ⊢; rw [ih]
theorem lenL_app (l m : Tr) : lenL (app l m) = lenL l + lenL m := by
  induction l with
  | nil => simp [app, lenL]
  | node b o a x q _ ih => simp only [app, lenL, ih]; omega
theorem lenL_snoc (l e : Tr) : lenL (snoc l e) = lenL l + 1 := by unfold snoc; rw [lenL_app]; rfl
theorem rowCells_app (l m : Tr) : rowCells (app l m) = rowCells l ++ rowCells m := by
  induction l with
  | nil => rfl
  | node b o a x q _ ih => simp only [app, rowCells, ih, List.append_assoc]
theorem rowCells_snoc (l e : Tr) : rowCells (snoc l e) = rowCells l ++ elemCells e := by unfold snoc; rw [rowCells_app]; simp [cons, mk, rowCells]
theorem er_app (l m : Tr) : er (app l m) = app (er l) (er m) := by
  induction l with
  | nil => rfl
  | node b o a x q _ ih => simp only [app, er, ih]
theorem er_snoc (l e : Tr) : er (snoc l e) = snoc (er l) (er e) := by unfold snoc; rw [er_app]; rfl
theorem isT_app (w : World) (l m : Tr) : (∀ sz, Sized sz l → IsT w l → IsT w m → IsT w (app l m)) := by
  induction l with
  | nil => intro sz _ _ h; exact h
  | node b o a x q _ ih =>
    intro sz hs h hm
    refine ⟨h.1, ih sz hs.2.2.2 h.2.1 hm, ?_⟩
    unfold Own
    rw [hs.1]
    trivial
theorem isT_snoc {w : World} {l e : Tr} {sz : Nat} (hs : Sized sz l) (hl : IsT w l) (he : IsT w e) : IsT w (snoc l e) := isT_app w l _ sz hs hl ⟨he, trivial, trivial⟩
theorem sized_app {sz : Nat} {l m : Tr} (hl : Sized sz l) (hm : Sized sz m) : Sized sz (app l m) := by
  induction l with
  | nil => exact hm
  | node b o a x q _ ih => exact ⟨hl.1, hl.2.1, hl.2.2.1, ih hl.2.2.2⟩
theorem sized_snoc {sz : Nat} {l e : Tr} (hl : Sized sz l) (he : ∃ b o a l q, e = .node b o a l q ∧ (a.tag = 19 ↔ sz = 3)) (hc : (elemCells e).length = sz) : Sized sz (snoc l e) := sized_app hl ⟨rfl, he, hc, trivial⟩
theorem snoc_ne (l e : Tr) : snoc l e ≠ .nil := by cases l <;> intro h <;> cases h

/-- The row's cells say what its elements are. -/
theorem rowOk_of {sz : Nat} {cs : Array Value} : ∀ (l : Tr) (o : Nat) (pre : List Value), Sized sz l → pre.length = o * sz → (∀ (j : Nat) (v : Value), (pre ++ rowCells l)[j]? = some v → cs[j]? = some v) → rowOk cs o l := by
  intro l
  induction l with
  | nil => intro o pre _ _ _; trivial
  | node b q a e r _ ih =>
    intro o pre hs hp hc
    obtain ⟨_, ⟨eb, eo, ea, el, er', rfl, htag⟩, hlen, hr⟩ := hs
    have hcell : ∀ (j : Nat) (v : Value), (elemCells (.node eb eo ea el er'))[j]? = some v → cs[o * sz + j]? = some v := by
      intro j v hv
      refine hc (o * sz + j) v ?_
      rw [List.getElem?_append_right (by omega), hp, show o * sz + j - o * sz = j from by omega]
      show (elemCells (.node eb eo ea el er') ++ rowCells r)[j]? = some v
      rw [List.getElem?_append_left (List.getElem?_eq_some_iff.1 hv).1]
      exact hv
    refine ⟨?_, ih (o + 1) (pre ++ elemCells (.node eb eo ea el er')) hr (by rw [List.length_append, hlen, hp, Nat.succ_mul]) ?_⟩
    · show (if ea.tag = 19 then Nam cs (o * 3) ea else if ea.tag = 7 then cs[o]? = some (ptrT (.node eb eo ea el er')) else cs[o]? = some (valT (.node eb eo ea el er')))
      by_cases h19 : ea.tag = 19
      · have hsz := htag.1 h19
        subst hsz
        rw [if_pos h19]
        have he : elemCells (.node eb eo ea el er') = [.string ea.name, .int .i64 ea.npos, .int .i64 ea.which] := if_pos h19
        rw [he] at hcell
        exact ⟨hcell 0 _ rfl, hcell 1 _ rfl, hcell 2 _ rfl⟩
      · rw [if_neg h19]
        have h1 : sz = 1 := by
          rw [← hlen]
          show (if ea.tag = 19 then [Value.string ea.name, .int .i64 ea.npos, .int .i64 ea.which] else if ea.tag = 7 then [ptrT (.node eb eo ea el er')] else [valT (.node eb eo ea el er')]).length = 1
          rw [if_neg h19]
          split <;> rfl
        subst h1
        by_cases h7 : ea.tag = 7
        · rw [if_pos h7]
          have he : elemCells (.node eb eo ea el er') = [ptrT (.node eb eo ea el er')] := (if_neg h19).trans (if_pos h7)
          rw [he] at hcell
          simpa using hcell 0 _ rfl
        · rw [if_neg h7]
          have he : elemCells (.node eb eo ea el er') = [valT (.node eb eo ea el er')] := (if_neg h19).trans (if_neg h7)
          rw [he] at hcell
          simpa using hcell 0 _ rfl
    · intro j v hv
      refine hc j v ?_
      rw [List.append_assoc] at hv
      exact hv

theorem ownsRow_ex {b : Nat} {w w' : World} {base : Nat} {e : TypeId} {size n : Nat} {v : Value} {xs : List Value} (h : w.ownsRow base e size v n xs) {c : Array Value} (hb : w.heap[b]? = some (.cells c 145 (0, 0))) (hne : e ≠ 145) (he : Ex b w w') : w'.ownsRow base e size v n xs := by
  refine ⟨h.1, ?_⟩
  rcases h.2 with h2 | ⟨g, cap, cur, hv, hg, hh, r⟩
  · exact .inl h2
  · refine .inr ⟨g, cap, cur, hv, hg, (he.block g (Array.getElem?_eq_some_iff.1 hh).1 ?_).trans hh, r⟩
    intro e1
    rw [e1, hb] at hh
    simp only [Option.some.injEq, Obj.cells.injEq] at hh
    exact hne hh.2.1.symm

/-- A row that is owned, as a list in memory. -/
theorem isT_listed {w : World} {base sz g cp n : Nat} {l : Tr} (hl : l ≠ .nil) (hs : Sized sz l) (hi : IsT w l) (h : w.ownsRow base (rowTyp l) sz (.slice (some ⟨g, 0, none⟩) n cp) n (rowCells l)) : IsT w (.node g cp { tag := 20 } l .nil) := by
  refine ⟨hi, trivial, hl, ?_⟩
  rcases h.2 with ⟨hx, _⟩ | ⟨g', cap, cur, hv, _, hh, _, _, hsz, htk⟩
  · cases hx
  · simp only [Value.slice.injEq, Option.some.injEq, Addr.mk.injEq] at hv
    obtain ⟨⟨rfl, _, _⟩, _, rfl⟩ := hv
    refine ⟨cur, hh, rowOk_of l 0 [] hs (by simp) ?_⟩
    intro j v hv
    rw [List.nil_append, ← htk, List.getElem?_take] at hv
    split at hv
    · simpa using hv
    · cases hv

theorem fresh_app {H : Nat} {l m : Tr} (hl : Fresh H l) (hm : Fresh H m) : Fresh H (app l m) := by
  induction l with
  | nil => exact hm
  | node b o a x q _ ih => exact ⟨hl.1, ih hl.2.1, hl.2.2⟩
theorem known_app {l m : Tr} (hl : Known l) (hm : Known m) : Known (app l m) := by
  induction l with
  | nil => exact hm
  | node b o a x q _ ih => exact ⟨hl.1, ih hl.2.1, hl.2.2⟩
theorem notIn_app {k : Nat} {l m : Tr} (hl : NotIn k l) (hm : NotIn k m) : NotIn k (app l m) := by
  induction l with
  | nil => exact hm
  | node b o a x q _ ih => exact ⟨hl.1, ih hl.2.1, hl.2.2⟩
theorem notIn_snoc {k : Nat} {l e : Tr} (hl : NotIn k l) (he : NotIn k e) : NotIn k (snoc l e) := notIn_app hl ⟨he, trivial, fun p => absurd rfl p.1⟩
theorem New.cons {H : Nat} {w : World} {e l : Tr} (he : New H w e) (hl : New H w l) : New H w (cons e l) := New.node he hl (fun p => absurd rfl p.1) (by simp) trivial
theorem New.snoc {H sz : Nat} {w : World} {l e : Tr} (hs : Sized sz l) (hl : New H w l) (he : New H w e) : New H w (snoc l e) :=
  ⟨isT_snoc hs hl.is he.is, fresh_app hl.fresh (he.cons (New.nil H w)).fresh, known_app hl.known (he.cons (New.nil H w)).known⟩
theorem New.listed {H sz g cp n : Nat} {w : World} {l : Tr} (hl : l ≠ .nil) (hs : Sized sz l) (hi : New H w l) (h : w.ownsRow H (rowTyp l) sz (.slice (some ⟨g, 0, none⟩) n cp) n (rowCells l)) : New H w (.node g cp { tag := 20 } l .nil) := by
  have h1 := isT_listed hl hs hi.is h
  exact ⟨h1, ⟨hi.fresh, trivial, fun _ => (h.lt g rfl).1⟩, ⟨hi.known, trivial, by simp⟩⟩
theorem rowTyp_snoc {l e : Tr} (h : l ≠ .nil) : rowTyp (snoc l e) = rowTyp l := by
  cases l with
  | nil => exact absurd rfl h
  | node b o a x r => rw [snoc, app]; cases x <;> rfl
end Go.Proofs.YtikffmloeifkpaaGreatDoor

/- Package grammar: the three lists. -/
namespace Go.Proofs.YtikffmloeifkpaaGreatDoor
open Go.RowKit Go.Lib Go.Deep

/-- As Gives, the value by whatever road. -/
def GivesV (T : List Tok) (g cap b f : Nat) (S : Pr) (D : Rd → Prop) (val : Tr → Value) : Prop :=
  ∀ r w, RdW T g cap b r w → D r → Calls Tryz.prog f #[.pointer (some ⟨b, 0, none⟩)] w (Post T g cap b w (S r) val)

theorem ownsRow_one {w : World} {base : Nat} {e : TypeId} {sz : Nat} {cs : Array Value} (hb : base ≤ w.heap.size) (hs : cs.size = sz) : (w.alloc (.cells cs e)).ownsRow base e sz (.slice (some ⟨w.heap.size, 0, none⟩) 1 1) 1 cs.toList :=
  ⟨by simp [hs], .inr ⟨w.heap.size, 1, cs, rfl, hb, heap_alloc_new w _, Nat.le_refl _, by unfold maxLen; omega, by omega, by rw [Nat.one_mul, List.take_of_length_le (by simp [hs])]⟩⟩
theorem val_ptr {t : Tr} {a : Nd} {x y : Tr} (h : er t = mk a x y) : ∃ p, ptrT t = .pointer (some p) := by
  cases t with
  | nil => cases h
  | node b o a' l r => exact ⟨_, rfl⟩
theorem node_of {t : Tr} {a : Nd} {x y : Tr} (h : er t = mk a x y) : ∃ b o l r, t = .node b o a l r ∧ er l = x ∧ er r = y := by
  cases t with
  | nil => cases h
  | node b o a' l r =>
    simp only [er, mk, BT.node.injEq] at h
    obtain ⟨_, _, rfl, h1, h2⟩ := h
    exact ⟨b, o, l, r, rfl, h1, h2⟩
theorem slice_own {w : World} {base n sz : Nat} {e : TypeId} {v : Value} {xs : List Value} (h : w.ownsRow base e sz v n xs) (hn : 0 < n) : ∃ g cp, v = .slice (some ⟨g, 0, none⟩) n cp := by
  obtain ⟨g, cp, hv, _⟩ := h.form hn
  exact ⟨g, cp, hv⟩
theorem len_pos {l : Tr} (h : l ≠ .nil) : 0 < lenL l := by
  cases l with
  | nil => exact absurd rfl h
  | node b o a x r => simp [lenL]

theorem Tryz.infoEE : (Tryz.prog.info? 269).map (fun i => (i.zero, i.size, i.bytes)) = some (some .nilIface, 1, 16) := by kernel_rfl
theorem typ_E {t : Tr} {a : Nd} {x y : Tr} (h : er t = mk a x y) (h1 : 0 ≤ a.tag) (h2 : a.tag < 7) : elemCells t = [valT t] ∧ rowTyp (cons t .nil) = 269 ∧ ∃ b o a l q, t = .node b o a l q ∧ (a.tag = 19 ↔ 1 = 3) := by
  obtain ⟨b, o, l, r, rfl, _, _⟩ := node_of h
  refine ⟨?_, ?_, b, o, a, l, r, rfl, ⟨fun h => by omega, fun h => by omega⟩⟩
  · show (if a.tag = 19 then [Value.string a.name, .int .i64 a.npos, .int .i64 a.which] else if a.tag = 7 then [ptrT (.node b o a l r)] else [valT (.node b o a l r)]) = _
    rw [if_neg (by omega), if_neg (by omega)]
  · show (if a.tag = 19 then _ else if a.tag = 7 then _ else if a.tag < 7 then _ else if a.tag < 15 then _ else _) = _
    rw [if_neg (by omega), if_neg (by omega), if_pos (by omega)]

set_option maxRecDepth 100000 in
set_option maxHeartbeats 4000000 in
theorem listE_any (T : List Tok) (g cap b f n qr : Nat) (S : Pr) (r : Rd) (w : World) (hf : ∀ args wx, (callFunc f args).run Tryz.prog wx = .ok (.enter f args) wx)
    (hS : GivesV T g cap b f S (Dm T n qr) valT) (hG : Goes T S) (hO : So 0 7 S) (h : RdW T g cap b r w) (hd : Dm T n qr r) :
    Calls Tryz.prog 366 #[.pointer (some ⟨b, 0, none⟩), fv f b] w (Post T g cap b w (listP T S n r) valT) := by
  have HS : Hid (GivesV T g cap b f S (Dm T n qr) valT) := hS
  have HG : Hid (Goes T S) := hG
  have HO : Hid (So 0 7 S) := hO
  clear hS hG hO
  obtain ⟨i0, hi0, hz0, hz1, hz2⟩ := info_parts Tryz.infoEE
  unfold fv
  go_enter Tryz.func366, Tryz.ntmps366
  go_wp2_with fail
  refine (HS.out r w h hd).mono ?_
  rintro e w1 ⟨t, rfl, ht, it, h1, e1⟩
  have HT : Hid (er t = (S r).2) := ht
  clear ht
  have a1 := HG.out r h.lt
  have hd1 := hd.adv a1
  have hfew := h.few
  obtain ⟨sa, sx, sy, hse, hs1, hs2⟩ := HO.out r
  obtain ⟨hec, hrt, hnd⟩ := typ_E (HT.out.trans hse) hs1 hs2
  obtain ⟨u, p, hv⟩ := val_iface (HT.out.trans hse) (by omega)
  have HV : Hid (valT t = .iface u (.pointer (some p))) := hv
  have HE : Hid (elemCells t = [valT t]) := hec
  have HRT : Hid (rowTyp (cons t .nil) = 269) := hrt
  rw [hv]
  clear hv hec hrt
  have own1 : (w1.alloc (.cells #[.iface u (.pointer (some p))] 269)).ownsRow w.heap.size 269 1 (.slice (some ⟨w1.heap.size, 0, none⟩) 1 1) 1 [.iface u (.pointer (some p))] := ownsRow_one e1.size rfl
  go_wp2_with fail
  go_loopg [5] n (fun m v wr => ∃ (rc : Rd) (acc : Tr), wr.ownsRow w.heap.size 269 1 v (lenL acc) (rowCells acc) ∧ acc ≠ .nil ∧ rowTyp acc = 269 ∧ Sized 1 acc ∧ New w.heap.size wr acc ∧ (∀ k, v.ownBlock = some k → NotIn k acc) ∧ RdW T g cap b rc wr ∧ Ex b w wr ∧ Dm T n qr rc ∧ T.length - rc.next ≤ m ∧ lenL acc ≤ rc.next + 1 ∧
      app (er acc) (listL T S m rc).2 = cons (S r).2 (listL T S n (S r).1).2 ∧ (listL T S m rc).1 = (listL T S n (S r).1).1)
  case atStart =>
    refine ⟨_, cons t .nil, ?_, ?_, HRT.out, ⟨rfl, hnd, by rw [HE.out]; rfl, trivial⟩, (it.ex h1 ((Ex.refl b w1).alloc _)).cons (New.nil _ _), ?_, h1.alloc _, e1.alloc _, hd1, ?_, ?_, ?_, rfl⟩
    · show World.ownsRow _ _ _ _ _ 1 (elemCells t ++ [])
      rw [HE.out, HV.out]
      exact own1
    · intro e; cases e
    · intro k hk
      simp only [Value.ownBlock, Option.some.injEq] at hk
      subst hk
      exact ⟨it.out (Nat.le_refl _), trivial, fun p => absurd rfl p.1⟩
    · have := hd1.1; omega
    · show 0 + 1 ≤ _; omega
    · show cons (er t) _ = _
      rw [HT.out]
      rfl
  case round =>
    obtain ⟨rc, acc, own, hnn, hrt, hsz, iac, hni, hc, ec, hdc, hm, hlen, hrun, hrun2⟩ := hrel
    have HR : Hid (app (er acc) (listL T S gk rc).2 = cons (S r).2 (listL T S n (S r).1).2) := hrun
    have HR2 : Hid ((listL T S gk rc).1 = (listL T S n (S r).1).1) := hrun2
    have HRT2 : Hid (rowTyp acc = 269) := hrt
    clear hrun hrun2 hrt own1
    obtain ⟨gg, cp, hvv⟩ := slice_own own (len_pos hnn)
    subst hvv
    have hc2 := hc.alloc (.cells #[.int .i64 18] 141)
    have e2 := (Ex.refl b wr).alloc (.cells #[.int .i64 18] 141)
    have ia2 := iac.ex hc e2
    have own2 := own.alloc (.cells #[.int .i64 18] 141)
    have hk2 := kinds_new wr [18] #[.int .i64 18] rfl
    go_wp2_with fail
    refine (skips_any T g cap b rc wr.heap.size 1 [18] _ hc2 hk2 (by decide) (by decide)).mono ?_
    rintro e W3 ⟨rfl, hc3, e3⟩
    have ia3 := ia2.ex hc2 e3
    have own3 := ownsRow_ex own2 hc2.blk (by decide) e3
    have ec3 := (ec.trans e2).trans e3
    have hlt2 := hc.lt
    have a3 := adv_skips hc.ends hlt2 (show oneOf [18] 0 = false by decide)
    have hd3 := hdc.adv a3
    cases hs : stands T rc [18]
    · have hsk : rc.skips T [18] = rc := by unfold Rd.skips; rw [hs]; rfl
      rw [hsk] at hc3
      have hend : listL T S gk rc = (rc, .nil) := by
        cases gk with
        | zero => rfl
        | succ gk => show (if _ then _ else _) = _; rw [if_neg (by rw [hs]; decide)]
      have h2 := HR.out
      have h3 := HR2.out
      rw [hend] at h2 h3
      rw [app_nil] at h2
      have fin : Post T g cap b w (listP T S n r) valT (.returned (.slice (some ⟨gg, 0, none⟩) (lenL acc) cp)) W3 := by
        refine ⟨.node gg cp { tag := 20 } acc .nil, rfl, ?_, New.listed hnn hsz ia3 (by rw [HRT2.out]; exact own3), ?_, ec3⟩
        · show BT.node 0 0 _ (er acc) .nil = listed (cons (S r).2 (listL T S n (S r).1).2)
          rw [h2]; rfl
        · show RdW T g cap b (listL T S n (S r).1).1 W3
          rw [← h3]; exact hc3
      clear h2 h3 hend hsk HR HR2
      go_wp2
      go_ret
      exact fin
    · have HN : Hid ((rc.skips T [18]).next = rc.next + 1) := stands_skip hs
      go_wp2_with fail
      refine (HS.out _ _ hc3 hd3).mono ?_
      rintro e W5 ⟨t5, rfl, ht5, it5, h5, e5⟩
      have HT5 : Hid (er t5 = (S (rc.skips T [18])).2) := ht5
      obtain ⟨ya, yx, yy, hye, hy1, hy2⟩ := HO.out (rc.skips T [18])
      obtain ⟨hec5, _, hnd5⟩ := typ_E (HT5.out.trans hye) hy1 hy2
      obtain ⟨u5, p5, hv5⟩ := val_iface (HT5.out.trans hye) (by omega)
      have HV5 : Hid (valT t5 = .iface u5 (.pointer (some p5))) := hv5
      have HE5 : Hid (elemCells t5 = [valT t5]) := hec5
      rw [hv5]
      clear hv5 hye ht5 hec5
      obtain ⟨m, rfl⟩ : ∃ m, gk = m + 1 := ⟨gk - 1, by omega⟩
      have a5 := a3.trans (HG.out _ a3.lt)
      have hd5 := hdc.adv a5
      have own5 := ownsRow_ex own3 hc3.blk (by decide) e5
      have ia5 := ia3.ex hc3 e5
      have ec5 := ec3.trans e5
      have hw5 := ec5.size
      have hnx := HN.out
      have hge := (HG.out _ a3.lt).ge
      have hltS := (HG.out _ a3.lt).lt
      have hl4 : lenL acc ≤ 5000 := by omega
      go_wp2_with (at_builtin; refine wpList_append_lies _ rfl _ _ 448 rfl w.heap.size 269 i0 _ 1 16 Tryz.underlying448 hi0 hz0 hz1 hz2 rfl (by omega) (.slice (some ⟨gg, 0, none⟩) (lenL acc) cp) (lenL acc) (rowCells acc) rfl (own5.alloc _) ⟨W5.heap.size, 0, none⟩ 1 1 [.iface u5 (.pointer (some p5))] rfl rfl (World.news_of_block (cs := #[.iface u5 (.pointer (some p5))]) (t := 269) (fr := (0, 0)) (heap_alloc_new W5 _)) (by simp [Value.oneCell']) (by omega) (by unfold maxLen; omega) (by omega) (by simp; omega) (W5.heap.size + 1) (by simp) ?_; intro g6 cp6 W6 own6 grow6 hat6 hlt6)
      have e6 : Ex b W5 (W5.alloc (.cells #[.iface u5 (.pointer (some p5))] 269)) := (Ex.refl b W5).alloc _
      have h6 := h5.alloc (.cells #[.iface u5 (.pointer (some p5))] 269)
      have ia6 := ia5.ex h5 e6
      have ib6 := it5.ex h5 e6
      have rne : ∀ k, Value.ownBlock (.slice (some ⟨gg, 0, none⟩) (lenL acc) cp) = some k → k ≠ b ∧ k ≠ g := by
        intro k hk
        rcases (own5.alloc (.cells #[.iface u5 (.pointer (some p5))] 269)).2 with ⟨hx, _⟩ | ⟨g', cap', cur, hv, _, hh, _⟩
        · cases hx
        · simp only [Value.slice.injEq, Option.some.injEq, Addr.mk.injEq] at hv
          obtain ⟨⟨rfl, _, _⟩, _, _⟩ := hv
          simp only [Value.ownBlock, Option.some.injEq] at hk
          subst hk
          refine ⟨fun e1 => ?_, fun e1 => ?_⟩
          · rw [e1, h6.blk] at hh
            simp at hh
          · obtain ⟨cur2, hc9, _⟩ := h6.row
            rw [e1, hc9] at hh
            simp at hh
      have h7 : RdW T g cap b (S (rc.skips T [18])).1 W6 := h6.move (grow6.block b h6.size (fun e1 => (rne b e1.symm).1 rfl)) (grow6.block g h6.gsize (fun e1 => (rne g e1.symm).2 rfl))
      have e7 : Ex b w W6 := Ex.grown (ec5.alloc _) grow6 (fun k hk => (own.lt k hk).1)
      have nig : NotIn gg acc := hni gg rfl
      have hggl : gg < W3.heap.size := (own3.lt gg rfl).2
      have hbut : ∀ i, i < (W5.alloc (.cells #[.iface u5 (.pointer (some p5))] 269)).heap.size → i ≠ gg → W6.heap[i]? = (W5.alloc (.cells #[.iface u5 (.pointer (some p5))] 269)).heap[i]? := fun i hi hne => grow6.block i hi (fun e1 => hne (Option.some.inj e1))
      have ia7 : New w.heap.size W6 acc := ia6.but hbut nig
      have nib : NotIn gg t5 := ib6.fresh.notIn hggl
      have ib7 : New w.heap.size W6 t5 := (ib6.but hbut nib).mono ec3.size
      have nis : NotIn g6 (snoc acc t5) := by
        rcases hat6 with hx | hx
        · simp only [Value.ownBlock, Option.some.injEq] at hx
          subst hx
          exact notIn_snoc nig nib
        · subst hx
          have hs5 : (W5.alloc (.cells #[.iface u5 (.pointer (some p5))] 269)).heap.size = W5.heap.size + 1 := by simp
          exact notIn_snoc (ia6.out (by omega)) (ib6.out (by omega))
      have fin : ∃ (rc : Rd) (acc' : Tr), W6.ownsRow w.heap.size 269 1 (.slice (some ⟨g6, 0, none⟩) (lenL acc + 1) cp6) (lenL acc') (rowCells acc') ∧ acc' ≠ .nil ∧ rowTyp acc' = 269 ∧ Sized 1 acc' ∧ New w.heap.size W6 acc' ∧
          (∀ k, (Value.slice (some ⟨g6, 0, none⟩) (lenL acc + 1) cp6).ownBlock = some k → NotIn k acc') ∧ RdW T g cap b rc W6 ∧ Ex b w W6 ∧ Dm T n qr rc ∧ T.length - rc.next ≤ m ∧ lenL acc' ≤ rc.next + 1 ∧
          app (er acc') (listL T S m rc).2 = cons (S r).2 (listL T S n (S r).1).2 ∧ (listL T S m rc).1 = (listL T S n (S r).1).1 := by
        refine ⟨_, snoc acc t5, ?_, snoc_ne _ _, ?_, ?_, New.snoc hsz ia7 ib7, ?_, h7, e7, hd5, ?_, ?_, ?_, ?_⟩
        · rw [lenL_snoc, rowCells_snoc, HE5.out, HV5.out]; exact own6
        · rw [rowTyp_snoc hnn]; exact HRT2.out
        · exact sized_snoc hsz hnd5 (by rw [HE5.out]; rfl)
        · intro k hk
          simp only [Value.ownBlock, Option.some.injEq] at hk
          subst hk
          exact nis
        · omega
        · rw [lenL_snoc]; omega
        · have h2 := HR.out
          have h3 : listL T S (m + 1) rc = ((listL T S m (S (rc.skips T [18])).1).1, cons (S (rc.skips T [18])).2 (listL T S m (S (rc.skips T [18])).1).2) := by
            show (if _ then _ else _) = _; rw [if_pos hs]
          rw [h3] at h2
          rw [er_snoc, app_snoc, HT5.out]
          exact h2
        · have h2 := HR2.out
          have h3 : listL T S (m + 1) rc = ((listL T S m (S (rc.skips T [18])).1).1, cons (S (rc.skips T [18])).2 (listL T S m (S (rc.skips T [18])).1).2) := by
            show (if _ then _ else _) = _; rw [if_pos hs]
          rw [h3] at h2
          exact h2
      clear HR HR2 HS HG HO HT HV HE HN HT5 HV5 HE5 HRT HRT2 hat6 ia7 ib7 nis nib nig ia6 ib6 ia5 ia3 ia2 it5 own6 own5 own3 own2 own h7 e7 h6 e6 hsz iac hni hc ec hdc rne hbut grow6 hd5 hd3 a5 a3
      go_wp2
      go_roundg m
      case rel => exact fin
      case measure => omega
end Go.Proofs.YtikffmloeifkpaaGreatDoor

/- Package grammar: the list of conditions. -/
namespace Go.Proofs.YtikffmloeifkpaaGreatDoor
open Go.RowKit Go.Lib Go.Deep

theorem Tryz.infoEC : (Tryz.prog.info? 253).map (fun i => (i.zero, i.size, i.bytes)) = some (some (.pointer none), 1, 8) := by kernel_rfl
theorem typ_C {t : Tr} {a : Nd} {x y : Tr} (h : er t = mk a x y) (h1 : 7 ≤ a.tag) (h2 : a.tag < 8) : elemCells t = [ptrT t] ∧ rowTyp (cons t .nil) = 253 ∧ ∃ b o a l q, t = .node b o a l q ∧ (a.tag = 19 ↔ 1 = 3) := by
  obtain ⟨b, o, l, r, rfl, _, _⟩ := node_of h
  refine ⟨?_, ?_, b, o, a, l, r, rfl, ⟨fun h => by omega, fun h => by omega⟩⟩
  · show (if a.tag = 19 then [Value.string a.name, .int .i64 a.npos, .int .i64 a.which] else if a.tag = 7 then [ptrT (.node b o a l r)] else [valT (.node b o a l r)]) = _
    rw [if_neg (by omega), if_pos (by omega)]
  · show (if a.tag = 19 then _ else if a.tag = 7 then _ else if a.tag < 7 then _ else if a.tag < 15 then _ else _) = _
    rw [if_neg (by omega), if_pos (by omega)]

set_option maxRecDepth 100000 in
set_option maxHeartbeats 4000000 in
theorem listC_any (T : List Tok) (g cap b f n qr : Nat) (S : Pr) (r : Rd) (w : World) (hf : ∀ args wx, (callFunc f args).run Tryz.prog wx = .ok (.enter f args) wx)
    (hS : GivesV T g cap b f S (Dm T n qr) ptrT) (hG : Goes T S) (hO : So 7 8 S) (h : RdW T g cap b r w) (hd : Dm T n qr r) :
    Calls Tryz.prog 190 #[.pointer (some ⟨b, 0, none⟩), fv f b] w (Post T g cap b w (listP T S n r) valT) := by
  have HS : Hid (GivesV T g cap b f S (Dm T n qr) ptrT) := hS
  have HG : Hid (Goes T S) := hG
  have HO : Hid (So 7 8 S) := hO
  clear hS hG hO
  obtain ⟨i0, hi0, hz0, hz1, hz2⟩ := info_parts Tryz.infoEC
  unfold fv
  go_enter Tryz.func190, Tryz.ntmps190
  go_wp2_with fail
  refine (HS.out r w h hd).mono ?_
  rintro e w1 ⟨t, rfl, ht, it, h1, e1⟩
  have HT : Hid (er t = (S r).2) := ht
  clear ht
  have a1 := HG.out r h.lt
  have hd1 := hd.adv a1
  have hfew := h.few
  obtain ⟨sa, sx, sy, hse, hs1, hs2⟩ := HO.out r
  obtain ⟨hec, hrt, hnd⟩ := typ_C (HT.out.trans hse) hs1 hs2
  obtain ⟨p, hv⟩ := val_ptr (HT.out.trans hse)
  have HV : Hid (ptrT t = .pointer (some p)) := hv
  have HE : Hid (elemCells t = [ptrT t]) := hec
  have HRT : Hid (rowTyp (cons t .nil) = 253) := hrt
  rw [hv]
  clear hv hec hrt
  have own1 : (w1.alloc (.cells #[.pointer (some p)] 253)).ownsRow w.heap.size 253 1 (.slice (some ⟨w1.heap.size, 0, none⟩) 1 1) 1 [.pointer (some p)] := ownsRow_one e1.size rfl
  go_wp2_with fail
  go_loopg [5] n (fun m v wr => ∃ (rc : Rd) (acc : Tr), wr.ownsRow w.heap.size 253 1 v (lenL acc) (rowCells acc) ∧ acc ≠ .nil ∧ rowTyp acc = 253 ∧ Sized 1 acc ∧ New w.heap.size wr acc ∧ (∀ k, v.ownBlock = some k → NotIn k acc) ∧ RdW T g cap b rc wr ∧ Ex b w wr ∧ Dm T n qr rc ∧ T.length - rc.next ≤ m ∧ lenL acc ≤ rc.next + 1 ∧
      app (er acc) (listL T S m rc).2 = cons (S r).2 (listL T S n (S r).1).2 ∧ (listL T S m rc).1 = (listL T S n (S r).1).1)
  case atStart =>
    refine ⟨_, cons t .nil, ?_, ?_, HRT.out, ⟨rfl, hnd, by rw [HE.out]; rfl, trivial⟩, (it.ex h1 ((Ex.refl b w1).alloc _)).cons (New.nil _ _), ?_, h1.alloc _, e1.alloc _, hd1, ?_, ?_, ?_, rfl⟩
    · show World.ownsRow _ _ _ _ _ 1 (elemCells t ++ [])
      rw [HE.out, HV.out]
      exact own1
    · intro e; cases e
    · intro k hk
      simp only [Value.ownBlock, Option.some.injEq] at hk
      subst hk
      exact ⟨it.out (Nat.le_refl _), trivial, fun p => absurd rfl p.1⟩
    · have := hd1.1; omega
    · show 0 + 1 ≤ _; omega
    · show cons (er t) _ = _
      rw [HT.out]
      rfl
  case round =>
    obtain ⟨rc, acc, own, hnn, hrt, hsz, iac, hni, hc, ec, hdc, hm, hlen, hrun, hrun2⟩ := hrel
    have HR : Hid (app (er acc) (listL T S gk rc).2 = cons (S r).2 (listL T S n (S r).1).2) := hrun
    have HR2 : Hid ((listL T S gk rc).1 = (listL T S n (S r).1).1) := hrun2
    have HRT2 : Hid (rowTyp acc = 253) := hrt
    clear hrun hrun2 hrt own1
    obtain ⟨gg, cp, hvv⟩ := slice_own own (len_pos hnn)
    subst hvv
    have hc2 := hc.alloc (.cells #[.int .i64 18] 141)
    have e2 := (Ex.refl b wr).alloc (.cells #[.int .i64 18] 141)
    have ia2 := iac.ex hc e2
    have own2 := own.alloc (.cells #[.int .i64 18] 141)
    have hk2 := kinds_new wr [18] #[.int .i64 18] rfl
    go_wp2_with fail
    refine (skips_any T g cap b rc wr.heap.size 1 [18] _ hc2 hk2 (by decide) (by decide)).mono ?_
    rintro e W3 ⟨rfl, hc3, e3⟩
    have ia3 := ia2.ex hc2 e3
    have own3 := ownsRow_ex own2 hc2.blk (by decide) e3
    have ec3 := (ec.trans e2).trans e3
    have hlt2 := hc.lt
    have a3 := adv_skips hc.ends hlt2 (show oneOf [18] 0 = false by decide)
    have hd3 := hdc.adv a3
    cases hs : stands T rc [18]
    · have hsk : rc.skips T [18] = rc := by unfold Rd.skips; rw [hs]; rfl
      rw [hsk] at hc3
      have hend : listL T S gk rc = (rc, .nil) := by
        cases gk with
        | zero => rfl
        | succ gk => show (if _ then _ else _) = _; rw [if_neg (by rw [hs]; decide)]
      have h2 := HR.out
      have h3 := HR2.out
      rw [hend] at h2 h3
      rw [app_nil] at h2
      have fin : Post T g cap b w (listP T S n r) valT (.returned (.slice (some ⟨gg, 0, none⟩) (lenL acc) cp)) W3 := by
        refine ⟨.node gg cp { tag := 20 } acc .nil, rfl, ?_, New.listed hnn hsz ia3 (by rw [HRT2.out]; exact own3), ?_, ec3⟩
        · show BT.node 0 0 _ (er acc) .nil = listed (cons (S r).2 (listL T S n (S r).1).2)
          rw [h2]; rfl
        · show RdW T g cap b (listL T S n (S r).1).1 W3
          rw [← h3]; exact hc3
      clear h2 h3 hend hsk HR HR2
      go_wp2
      go_ret
      exact fin
    · have HN : Hid ((rc.skips T [18]).next = rc.next + 1) := stands_skip hs
      go_wp2_with fail
      refine (HS.out _ _ hc3 hd3).mono ?_
      rintro e W5 ⟨t5, rfl, ht5, it5, h5, e5⟩
      have HT5 : Hid (er t5 = (S (rc.skips T [18])).2) := ht5
      obtain ⟨ya, yx, yy, hye, hy1, hy2⟩ := HO.out (rc.skips T [18])
      obtain ⟨hec5, _, hnd5⟩ := typ_C (HT5.out.trans hye) hy1 hy2
      obtain ⟨p5, hv5⟩ := val_ptr (HT5.out.trans hye)
      have HV5 : Hid (ptrT t5 = .pointer (some p5)) := hv5
      have HE5 : Hid (elemCells t5 = [ptrT t5]) := hec5
      rw [hv5]
      clear hv5 hye ht5 hec5
      obtain ⟨m, rfl⟩ : ∃ m, gk = m + 1 := ⟨gk - 1, by omega⟩
      have a5 := a3.trans (HG.out _ a3.lt)
      have hd5 := hdc.adv a5
      have own5 := ownsRow_ex own3 hc3.blk (by decide) e5
      have ia5 := ia3.ex hc3 e5
      have ec5 := ec3.trans e5
      have hw5 := ec5.size
      have hnx := HN.out
      have hge := (HG.out _ a3.lt).ge
      have hltS := (HG.out _ a3.lt).lt
      have hl4 : lenL acc ≤ 5000 := by omega
      go_wp2_with (at_builtin; refine wpList_append_lies _ rfl _ _ 102 rfl w.heap.size 253 i0 _ 1 8 Tryz.underlying102 hi0 hz0 hz1 hz2 rfl (by omega) (.slice (some ⟨gg, 0, none⟩) (lenL acc) cp) (lenL acc) (rowCells acc) rfl (own5.alloc _) ⟨W5.heap.size, 0, none⟩ 1 1 [.pointer (some p5)] rfl rfl (World.news_of_block (cs := #[.pointer (some p5)]) (t := 253) (fr := (0, 0)) (heap_alloc_new W5 _)) (by simp [Value.oneCell']) (by omega) (by unfold maxLen; omega) (by omega) (by simp; omega) (W5.heap.size + 1) (by simp) ?_; intro g6 cp6 W6 own6 grow6 hat6 hlt6)
      have e6 : Ex b W5 (W5.alloc (.cells #[.pointer (some p5)] 253)) := (Ex.refl b W5).alloc _
      have h6 := h5.alloc (.cells #[.pointer (some p5)] 253)
      have ia6 := ia5.ex h5 e6
      have ib6 := it5.ex h5 e6
      have rne : ∀ k, Value.ownBlock (.slice (some ⟨gg, 0, none⟩) (lenL acc) cp) = some k → k ≠ b ∧ k ≠ g := by
        intro k hk
        rcases (own5.alloc (.cells #[.pointer (some p5)] 253)).2 with ⟨hx, _⟩ | ⟨g', cap', cur, hv, _, hh, _⟩
        · cases hx
        · simp only [Value.slice.injEq, Option.some.injEq, Addr.mk.injEq] at hv
          obtain ⟨⟨rfl, _, _⟩, _, _⟩ := hv
          simp only [Value.ownBlock, Option.some.injEq] at hk
          subst hk
          refine ⟨fun e1 => ?_, fun e1 => ?_⟩
          · rw [e1, h6.blk] at hh
            simp at hh
          · obtain ⟨cur2, hc9, _⟩ := h6.row
            rw [e1, hc9] at hh
            simp at hh
      have h7 : RdW T g cap b (S (rc.skips T [18])).1 W6 := h6.move (grow6.block b h6.size (fun e1 => (rne b e1.symm).1 rfl)) (grow6.block g h6.gsize (fun e1 => (rne g e1.symm).2 rfl))
      have e7 : Ex b w W6 := Ex.grown (ec5.alloc _) grow6 (fun k hk => (own.lt k hk).1)
      have nig : NotIn gg acc := hni gg rfl
      have hggl : gg < W3.heap.size := (own3.lt gg rfl).2
      have hbut : ∀ i, i < (W5.alloc (.cells #[.pointer (some p5)] 253)).heap.size → i ≠ gg → W6.heap[i]? = (W5.alloc (.cells #[.pointer (some p5)] 253)).heap[i]? := fun i hi hne => grow6.block i hi (fun e1 => hne (Option.some.inj e1))
      have ia7 : New w.heap.size W6 acc := ia6.but hbut nig
      have nib : NotIn gg t5 := ib6.fresh.notIn hggl
      have ib7 : New w.heap.size W6 t5 := (ib6.but hbut nib).mono ec3.size
      have nis : NotIn g6 (snoc acc t5) := by
        rcases hat6 with hx | hx
        · simp only [Value.ownBlock, Option.some.injEq] at hx
          subst hx
          exact notIn_snoc nig nib
        · subst hx
          have hs5 : (W5.alloc (.cells #[.pointer (some p5)] 253)).heap.size = W5.heap.size + 1 := by simp
          exact notIn_snoc (ia6.out (by omega)) (ib6.out (by omega))
      have fin : ∃ (rc : Rd) (acc' : Tr), W6.ownsRow w.heap.size 253 1 (.slice (some ⟨g6, 0, none⟩) (lenL acc + 1) cp6) (lenL acc') (rowCells acc') ∧ acc' ≠ .nil ∧ rowTyp acc' = 253 ∧ Sized 1 acc' ∧ New w.heap.size W6 acc' ∧
          (∀ k, (Value.slice (some ⟨g6, 0, none⟩) (lenL acc + 1) cp6).ownBlock = some k → NotIn k acc') ∧ RdW T g cap b rc W6 ∧ Ex b w W6 ∧ Dm T n qr rc ∧ T.length - rc.next ≤ m ∧ lenL acc' ≤ rc.next + 1 ∧
          app (er acc') (listL T S m rc).2 = cons (S r).2 (listL T S n (S r).1).2 ∧ (listL T S m rc).1 = (listL T S n (S r).1).1 := by
        refine ⟨_, snoc acc t5, ?_, snoc_ne _ _, ?_, ?_, New.snoc hsz ia7 ib7, ?_, h7, e7, hd5, ?_, ?_, ?_, ?_⟩
        · rw [lenL_snoc, rowCells_snoc, HE5.out, HV5.out]; exact own6
        · rw [rowTyp_snoc hnn]; exact HRT2.out
        · exact sized_snoc hsz hnd5 (by rw [HE5.out]; rfl)
        · intro k hk
          simp only [Value.ownBlock, Option.some.injEq] at hk
          subst hk
          exact nis
        · omega
        · rw [lenL_snoc]; omega
        · have h2 := HR.out
          have h3 : listL T S (m + 1) rc = ((listL T S m (S (rc.skips T [18])).1).1, cons (S (rc.skips T [18])).2 (listL T S m (S (rc.skips T [18])).1).2) := by
            show (if _ then _ else _) = _; rw [if_pos hs]
          rw [h3] at h2
          rw [er_snoc, app_snoc, HT5.out]
          exact h2
        · have h2 := HR2.out
          have h3 : listL T S (m + 1) rc = ((listL T S m (S (rc.skips T [18])).1).1, cons (S (rc.skips T [18])).2 (listL T S m (S (rc.skips T [18])).1).2) := by
            show (if _ then _ else _) = _; rw [if_pos hs]
          rw [h3] at h2
          exact h2
      clear HR HR2 HS HG HO HT HV HE HN HT5 HV5 HE5 HRT HRT2 hat6 ia7 ib7 nis nib nig ia6 ib6 ia5 ia3 ia2 it5 own6 own5 own3 own2 own h7 e7 h6 e6 hsz iac hni hc ec hdc rne hbut grow6 hd5 hd3 a5 a3
      go_wp2
      go_roundg m
      case rel => exact fin
      case measure => omega
end Go.Proofs.YtikffmloeifkpaaGreatDoor

/- Package grammar: indexes, arguments, names in a factor. -/
namespace Go.Proofs.YtikffmloeifkpaaGreatDoor
open Go.RowKit Go.Lib Go.Deep

theorem Dm.nest {T : List Tok} {n q : Nat} {r : Rd} (h : Dm T n q r) : 0 ≤ r.nest ∧ r.nest ≤ 1000000 := by obtain ⟨_, h2, h3⟩ := h; omega

set_option maxHeartbeats 2000000 in
theorem index_any (T : List Tok) (g cap b n : Nat) (E : Pr) (r : Rd) (w : World) (hE : Gives T g cap b 335 E (Dm T n 2)) (hG : Goes T E) (hO : So 0 7 E) (h : RdW T g cap b r w) (hn : 0 ≤ r.nest ∧ r.nest ≤ 1000000) (hd : Dm T n 2 (r.opened T [16])) :
    Calls Tryz.prog 336 #[.pointer (some ⟨b, 0, none⟩)] w (Post T g cap b w (indexP T E r) valT) := by
  have HE : Hid (Gives T g cap b 335 E (Dm T n 2)) := hE
  have HG : Hid (Goes T E) := hG
  have HO : Hid (So 0 7 E) := hO
  clear hE hG hO
  have h1 := h.alloc (.cells #[.int .i64 16] 141)
  have e1 := (Ex.refl b w).alloc (.cells #[.int .i64 16] 141)
  have k1 := kinds_new w [16] #[.int .i64 16] rfl
  obtain ⟨o1, o2, o3⟩ := opened_next h.ends h.lt (show oneOf [16] 0 = false by decide)
  go_enter Tryz.func336, Tryz.ntmps336
  go_wp2_with fail
  refine (open_any T g cap b r w.heap.size 1 [16] _ h1 k1 (by decide) (by decide) hn).mono ?_
  rintro e W2 ⟨rfl, h2, e2⟩
  go_wp2_with fail
  refine (HE.out _ _ h2 hd).mono ?_
  rintro e W3 ⟨t, rfl, ht, it, h3, e3⟩
  have HT : Hid (er t = (E (r.opened T [16])).2) := ht
  clear ht
  have a3 := HG.out _ o2
  have hn3 : 0 ≤ (E (r.opened T [16])).1.nest ∧ (E (r.opened T [16])).1.nest ≤ 1000000 := by rw [a3.nest]; exact hd.nest
  go_wp2_with fail
  refine (shut_any T g cap b _ 17 W3 h3 (by decide) hn3).mono ?_
  rintro e W4 ⟨rfl, h4, e4⟩
  go_wp2
  go_ret
  exact ⟨t, rfl, HT.out, (it.mono (e1.trans e2).size).ex h3 e4, h4, ((e1.trans e2).trans e3).trans e4⟩

set_option maxHeartbeats 2000000 in
theorem value_any (T : List Tok) (g cap b n : Nat) (E : Pr) (r : Rd) (w : World) (hE : Gives T g cap b 335 E (Dm T n 2)) (h : RdW T g cap b r w) (hd : Dm T n 2 r) :
    Calls Tryz.prog 300 #[.pointer (some ⟨b, 0, none⟩)] w (Post T g cap b w (valueP T E r) valT) := by
  have HE : Hid (Gives T g cap b 335 E (Dm T n 2)) := hE
  clear hE
  go_enter Tryz.func300, Tryz.ntmps300
  go_wp2_with fail
  refine (HE.out _ _ h hd).mono ?_
  rintro e W3 ⟨t, rfl, ht, it, h3, e3⟩
  have HT : Hid (er t = (E r).2) := ht
  clear ht
  have h4 := h3.alloc (.cells #[.int .i64 19] 141)
  have e4 := (Ex.refl b W3).alloc (.cells #[.int .i64 19] 141)
  have k4 := kinds_new W3 [19] #[.int .i64 19] rfl
  go_wp2_with fail
  refine (take_any T g cap b _ W3.heap.size 1 [19] _ h4 k4 (by decide) (by decide)).mono ?_
  rintro e W5 ⟨rfl, h5, e5⟩
  go_wp2
  go_ret
  exact ⟨t, rfl, HT.out, (it.ex h3 e4).ex h4 e5, h5, (e3.trans e4).trans e5⟩

theorem enters_expr : ∀ args wx, (callFunc 335 args).run Tryz.prog wx = .ok (.enter 335 args) wx := by
  intro args wx
  go_simp

set_option maxHeartbeats 2000000 in
theorem args_any (T : List Tok) (g cap b n : Nat) (E : Pr) (r : Rd) (w : World) (hE : Gives T g cap b 335 E (Dm T n 2)) (hG : Goes T E) (hO : So 0 7 E) (h : RdW T g cap b r w) (hn : 0 ≤ r.nest ∧ r.nest ≤ 1000000) (hd : Dm T n 2 (r.opened T [12])) :
    Calls Tryz.prog 365 #[.pointer (some ⟨b, 0, none⟩)] w (Post T g cap b w (argsP T E n r) valT) := by
  have HE : Hid (Gives T g cap b 335 E (Dm T n 2)) := hE
  have HG : Hid (Goes T E) := hG
  have HO : Hid (So 0 7 E) := hO
  clear hE hG hO
  have hmf : ∀ (fn : Fn) (first cap : Array Value) (w : World), (Instr.makeFunc fn first cap).run Tryz.prog w = .ok (.func fn first cap) w := fun _ _ _ _ => rfl
  have h1 := h.alloc (.cells #[.int .i64 12] 141)
  have e1 := (Ex.refl b w).alloc (.cells #[.int .i64 12] 141)
  have k1 := kinds_new w [12] #[.int .i64 12] rfl
  obtain ⟨o1, o2, o3⟩ := opened_next h.ends h.lt (show oneOf [12] 0 = false by decide)
  go_enter Tryz.func365, Tryz.ntmps365
  go_wp2_with fail
  refine (open_any T g cap b r w.heap.size 1 [12] _ h1 k1 (by decide) (by decide) hn).mono ?_
  rintro e W2 ⟨rfl, h2, e2⟩
  have h3 := h2.alloc (.cells #[.int .i64 13] 141)
  have e3 := (Ex.refl b W2).alloc (.cells #[.int .i64 13] 141)
  have k3 := kinds_new W2 [13] #[.int .i64 13] rfl
  go_wp2_with fail
  refine (stands_any T g cap b _ W2.heap.size 1 [13] _ h3 k3 (by decide)).mono ?_
  rintro e w' ⟨rfl, nn, rfl⟩
  have h4 := h3.drewN nn
  have e4 := ((e1.trans e2).trans e3).drewN nn
  generalize ((W2.alloc (.cells #[.int .i64 13] 141)).drewN nn) = W4 at *
  cases hs : stands T (r.opened T [12]) [13]
  · go_wp2_with fail
    refine (listE_any T g cap b 335 n 2 E _ W4 enters_expr HE.out HG.out HO.out h4 hd).mono ?_
    rintro e W5 ⟨t, rfl, ht, it, h5, e5⟩
    have HT : Hid (er t = (listP T E n (r.opened T [12])).2) := ht
    clear ht
    have a5 := goes_list h.ends HG.out n _ o2
    have hn5 : 0 ≤ (listP T E n (r.opened T [12])).1.nest ∧ (listP T E n (r.opened T [12])).1.nest ≤ 1000000 := by rw [a5.nest]; exact hd.nest
    go_wp2_with fail
    refine (shut_any T g cap b _ 13 W5 h5 (by decide) hn5).mono ?_
    rintro e W6 ⟨rfl, h6, e6⟩
    have hf : Hid (argsP T E n r = ((listP T E n (r.opened T [12])).1.shut T 13, (listP T E n (r.opened T [12])).2)) := by unfold Hid argsP; rw [hs]; rfl
    go_wp2
    go_ret
    exact ⟨t, rfl, by rw [hf.out]; exact HT.out, (it.mono e4.size).ex h5 e6, by rw [hf.out]; exact h6, (e4.trans e5).trans e6⟩
  · have hn5 : 0 ≤ (r.opened T [12]).nest ∧ (r.opened T [12]).nest ≤ 1000000 := hd.nest
    go_wp2_with fail
    refine (shut_any T g cap b _ 13 W4 h4 (by decide) hn5).mono ?_
    rintro e W6 ⟨rfl, h6, e6⟩
    have hf : Hid (argsP T E n r = ((r.opened T [12]).shut T 13, .nil)) := by unfold Hid argsP; rw [hs]; rfl
    go_wp2
    go_ret
    exact ⟨.nil, rfl, by rw [hf.out]; rfl, New.nil _ _, by rw [hf.out]; exact h6, e4.trans e6⟩
end Go.Proofs.YtikffmloeifkpaaGreatDoor

/- Package grammar: a name in a factor. -/
namespace Go.Proofs.YtikffmloeifkpaaGreatDoor
open Go.RowKit Go.Lib Go.Deep

/-- A name's block. -/
theorem name_block {w : World} {k : Nat} {x : ByteArray} {p : Int} (h : w.heap[k]? = some (.cells #[.string x, .int .i64 p, .int .i64 0] 100 (0, 0))) :
    w.cell? ⟨k, 0, none⟩ = some (.string x) ∧ w.cell? ⟨k, 1, none⟩ = some (.int .i64 p) ∧ w.cell? ⟨k, 2, none⟩ = some (.int .i64 0) := ⟨(three_cells h).1, (three_cells h).2.1, (three_cells h).2.2.1⟩

/-- The value of a list is a slice. -/
theorem val_list {t : Tr} (h : er t = .nil ∨ ∃ a x, er t = mk a x .nil ∧ a.tag = 20) : ∃ ao n cp, valT t = .slice ao n cp := by
  cases t with
  | nil => exact ⟨none, 0, 0, rfl⟩
  | node b o a l r =>
    rcases h with h | ⟨a', x, h, ha⟩
    · cases h
    · simp only [er, mk, BT.node.injEq] at h
      obtain ⟨_, _, rfl, _⟩ := h
      exact ⟨some ⟨b, 0, none⟩, lenL l, o, if_pos ha⟩
theorem sol_args (T : List Tok) (E : Pr) (n : Nat) : SoL (argsP T E n) := fun r => by
  unfold argsP
  split
  · exact .inl rfl
  · exact .inr ⟨_, _, rfl, rfl⟩

set_option maxRecDepth 100000 in
set_option maxHeartbeats 4000000 in
theorem named_any (T : List Tok) (g cap b n : Nat) (E : Pr) (tk : Tok) (r : Rd) (w : World) (hE : Gives T g cap b 335 E (Dm T n 2)) (hG : Goes T E) (hO : So 0 7 E) (h : RdW T g cap b r w) (hn : 0 ≤ r.nest ∧ r.nest ≤ 1000000)
    (hd1 : stands T r [16] = true → Dm T n 2 (r.opened T [16])) (hd2 : stands T r [12] = true → Dm T n 2 (r.opened T [12])) :
    Calls Tryz.prog 364 #[.pointer (some ⟨b, 0, none⟩), nameVal tk.text tk.pos] w (Post T g cap b w (namedP T E n tk r) valT) := by
  have HE : Hid (Gives T g cap b 335 E (Dm T n 2)) := hE
  have HG : Hid (Goes T E) := hG
  have HO : Hid (So 0 7 E) := hO
  have H1 : Hid (stands T r [16] = true → Dm T n 2 (r.opened T [16])) := hd1
  have H2 : Hid (stands T r [12] = true → Dm T n 2 (r.opened T [12])) := hd2
  clear hE hG hO hd1 hd2
  unfold nameVal
  have hsz : (w.alloc (.cells #[.string tk.text, .int .i64 tk.pos, .int .i64 0] 100)).heap.size = w.heap.size + 1 := by simp
  have h1 := h.alloc (.cells #[.string tk.text, .int .i64 tk.pos, .int .i64 0] 100)
  have h2 := h1.alloc (.cells #[.int .i64 16] 141)
  have e2 := ((Ex.refl b w).alloc (.cells #[.string tk.text, .int .i64 tk.pos, .int .i64 0] 100)).alloc (.cells #[.int .i64 16] 141)
  have k2 := kinds_new (w.alloc (.cells #[.string tk.text, .int .i64 tk.pos, .int .i64 0] 100)) [16] #[.int .i64 16] rfl
  rw [hsz] at k2
  have n2 : ((w.alloc (.cells #[.string tk.text, .int .i64 tk.pos, .int .i64 0] 100)).alloc (.cells #[.int .i64 16] 141)).heap[w.heap.size]? = some (.cells #[.string tk.text, .int .i64 tk.pos, .int .i64 0] 100 (0, 0)) :=
    (Below.heap_alloc _ _ _ (by rw [hsz]; omega)).trans (heap_alloc_new w _)
  have hne : w.heap.size ≠ b := by have := h.size; omega
  go_enter Tryz.func364, Tryz.ntmps364
  go_wp2_with fail
  refine (stands_any T g cap b r (w.heap.size + 1) 1 [16] _ h2 k2 (by decide)).mono ?_
  rintro e w' ⟨rfl, nn, rfl⟩
  have h3 := h2.drewN nn
  have e3 := e2.drewN nn
  have n3 : (((w.alloc (.cells #[.string tk.text, .int .i64 tk.pos, .int .i64 0] 100)).alloc (.cells #[.int .i64 16] 141)).drewN nn).heap[w.heap.size]? = _ := n2
  clear h1 h2 e2 k2 n2 hsz
  generalize (((w.alloc (.cells #[.string tk.text, .int .i64 tk.pos, .int .i64 0] 100)).alloc (.cells #[.int .i64 16] 141)).drewN nn) = W3 at *
  cases hs : stands T r [16]
  · have h4 := h3.alloc (.cells #[.int .i64 12] 141)
    have e4 := e3.alloc (.cells #[.int .i64 12] 141)
    have k4 := kinds_new W3 [12] #[.int .i64 12] rfl
    have n4 : (W3.alloc (.cells #[.int .i64 12] 141)).heap[w.heap.size]? = _ := (Below.heap_alloc _ _ _ (Array.getElem?_eq_some_iff.1 n3).1).trans n3
    go_wp2_with fail
    refine (stands_any T g cap b r W3.heap.size 1 [12] _ h4 k4 (by decide)).mono ?_
    rintro e w' ⟨rfl, n5, rfl⟩
    have h5 := h4.drewN n5
    have e5 := e4.drewN n5
    have b5 : ((W3.alloc (.cells #[.int .i64 12] 141)).drewN n5).heap[w.heap.size]? = _ := n4
    clear h3 h4 e3 e4 k4 n3 n4
    generalize ((W3.alloc (.cells #[.int .i64 12] 141)).drewN n5) = W5 at *
    obtain ⟨m0, m1, m2⟩ := name_block b5
    cases hs2 : stands T r [12]
    · have hf : Hid (namedP T E n tk r = (r, variable_ tk)) := by unfold Hid namedP; rw [hs, hs2]; rfl
      go_wp2
      go_ret
      refine ⟨.node W5.heap.size 0 { tag := 1, name := tk.text, npos := tk.pos } .nil .nil, rfl, by rw [hf.out]; rfl, New.node (New.nil _ _) (New.nil _ _) (fun _ => e5.size) (by simp) ?_, by rw [hf.out]; exact h5.alloc _, e5.alloc _⟩
      exact ⟨_, heap_alloc_new W5 _, rfl, rfl, rfl⟩
    · have hf : Hid (namedP T E n tk r = ((argsP T E n r).1, mk { tag := 3, name := tk.text, npos := tk.pos } (argsP T E n r).2 .nil)) := by unfold Hid namedP; rw [hs, hs2]; rfl
      have hD := H2.out hs2
      have m0' : W5.drew.cell? ⟨w.heap.size, 0, none⟩ = some (.string tk.text) := m0
      go_wp2_with fail
      go_region_held3 (fun w' => w'.cell? ⟨w.heap.size, 0, none⟩ = some (.string tk.text) ∧ w'.cell? ⟨w.heap.size, 1, none⟩ = some (.int .i64 tk.pos) ∧ w'.cell? ⟨w.heap.size, 2, none⟩ = some (.int .i64 0))
        (first
          | (refine ⟨?_, ?_, ?_⟩ <;> assumption)
          | go_keep)
        ((refine step_call rfl 365 #[.pointer (some ⟨b, 0, none⟩)] _ (by go_simp) (args_any T g cap b n E r _ HE.out HG.out HO.out h5.drew hn hD) ?_; rintro e W7 ⟨t7, rfl, ht7, it7, h7, e7⟩; refine ⟨_, rfl, ?_⟩; have HT7 : Hid (er t7 = (argsP T E n r).2) := ht7; clear ht7; have n7 := (e7.block w.heap.size (Array.getElem?_eq_some_iff.1 b5).1 hne).trans b5; have p0 := (name_block n7).1; have p1 := (name_block n7).2.1; have p2 := (name_block n7).2.2; obtain ⟨ao, ln, cq, hvl⟩ := val_list (by rw [HT7.out]; exact sol_args T E n r); have HVL : Hid (valT t7 = .slice ao ln cq) := hvl; rw [hvl]; clear hvl))
      go_wp2
      go_ret
      refine ⟨.node W7.heap.size 0 { tag := 3, name := tk.text, npos := tk.pos } t7 .nil, rfl, ?_, New.node ((it7.mono e5.size).ex h7 ((Ex.refl b W7).alloc _)) (New.nil _ _) (fun _ => (e5.drew.trans e7).size) (by simp) ?_, by rw [hf.out]; exact h7.alloc _, (e5.drew.trans e7).alloc _⟩
      · rw [hf.out, ← HT7.out]; rfl
      · exact ⟨_, heap_alloc_new W7 _, ⟨rfl, rfl, rfl⟩, by rw [HVL.out]; rfl, rfl⟩
  · have hf : Hid (namedP T E n tk r = ((indexP T E r).1, mk { tag := 2, name := tk.text, npos := tk.pos } (indexP T E r).2 .nil)) := by unfold Hid namedP; rw [hs]; rfl
    have hD := H1.out hs
    obtain ⟨m0, m1, m2⟩ := name_block n3
    have m0' : W3.drew.cell? ⟨w.heap.size, 0, none⟩ = some (.string tk.text) := m0
    go_wp2_with fail
    go_region_held3 (fun w' => w'.cell? ⟨w.heap.size, 0, none⟩ = some (.string tk.text) ∧ w'.cell? ⟨w.heap.size, 1, none⟩ = some (.int .i64 tk.pos) ∧ w'.cell? ⟨w.heap.size, 2, none⟩ = some (.int .i64 0))
      (first
        | (refine ⟨?_, ?_, ?_⟩ <;> assumption)
        | go_keep)
      ((refine step_call rfl 336 #[.pointer (some ⟨b, 0, none⟩)] _ (by go_simp) (index_any T g cap b n E r _ HE.out HG.out HO.out h3.drew hn hD) ?_; rintro e W7 ⟨t7, rfl, ht7, it7, h7, e7⟩; refine ⟨_, rfl, ?_⟩; have HT7 : Hid (er t7 = (indexP T E r).2) := ht7; clear ht7; have n7 := (e7.block w.heap.size (Array.getElem?_eq_some_iff.1 n3).1 hne).trans n3; have p0 := (name_block n7).1; have p1 := (name_block n7).2.1; have p2 := (name_block n7).2.2; obtain ⟨ya, yx, yy, hye, _, hyt⟩ := HO.out (r.opened T [16]); obtain ⟨u7, p7, hv7⟩ := val_iface (HT7.out.trans hye) (by omega); have HV7 : Hid (valT t7 = .iface u7 (.pointer (some p7))) := hv7; rw [hv7]; clear hv7 hye))
    go_wp2
    go_ret
    refine ⟨.node W7.heap.size 0 { tag := 2, name := tk.text, npos := tk.pos } t7 .nil, rfl, ?_, New.node ((it7.mono e3.size).ex h7 ((Ex.refl b W7).alloc _)) (New.nil _ _) (fun _ => (e3.drew.trans e7).size) (by simp) ?_, by rw [hf.out]; exact h7.alloc _, (e3.drew.trans e7).alloc _⟩
    · rw [hf.out, ← HT7.out]; rfl
    · exact ⟨_, heap_alloc_new W7 _, ⟨rfl, rfl, rfl⟩, by rw [HV7.out]; rfl, rfl⟩
end Go.Proofs.YtikffmloeifkpaaGreatDoor
