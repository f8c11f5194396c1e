/- The program's contracts, part 22: each says what a function of the program does, for every argument that its premises name. -/
import Derived.Test.YtikffmloeifkpaaGreatDoorM21
/- Package walk: a condition. -/
namespace Go.Proofs.YtikffmloeifkpaaGreatDoor
open Go.RowKit Go.Lib Go.Deep Go.ChangeMaps Go.MapKept
variable {lens : Nat → Int} {C : Cl} {vars : Nat → Int} {B pb rb fb d : Nat} {r : Rn} {w w' u : World} {value : Int} {al fl : List Tr}

set_option maxRecDepth 100000 in
set_option maxHeartbeats 8000000 in
theorem cond_x {b o : Nat} {a : Nd} {l q : Tr} (hw : Ws 1 (.node b o a l q)) (hC : COk C) (h7 : a.tag = 7 → GB 130 B pb d C al fl ptrT (.node b o a l q))
    (h8 : a.tag = 8 → Ws 1 l ∧ Ws 1 q ∧ GB 257 B pb d C al fl valT l ∧ GB 257 B pb d C al fl valT q) : GB 257 B pb d C al fl valT (.node b o a l q) := by
  intro rb fb vars value r w h hi
  obtain ⟨hoka, sx, sy, hsig, hwl, hwr⟩ := hw.parts
  have ht : a.tag = 7 ∨ a.tag = 8 := by
    by_cases h1 : a.tag = 7
    · exact .inl h1
    by_cases h2 : a.tag = 8
    · exact .inr h2
    · exfalso; simp [sig, h1, h2] at hsig
  have hval : valT (.node b o a l q) = .iface (ityp a.tag) (.pointer (some ⟨b, 0, none⟩)) := if_neg (by omega)
  rw [hval]
  clear hval hsig
  have t1 := fun u v => ta_compare u v w
  have t2 := fun u v => ta_logic u v w
  rcases ht with k7 | k8
  · have hcall := h7 k7 rb fb vars value r w h hi
    have hcall' : Calls Tryz.prog 130 #[.pointer (some ⟨fb, 0, none⟩), .pointer (some ⟨b, 0, none⟩)] w _ := hcall
    rw [show ityp a.tag = 253 by rw [k7]; rfl]
    generalize cdW (lensOf al) C vars (.node b o a l q) r = y at *
    clear h7 h8 hi hw hwl hwr h k7 hcall hoka
    go_enter Tryz.func257, Tryz.ntmps257
    go_wp2_with fail
    refine hcall'.mono ?_
    rintro e W2 ⟨rfl, g2, x2⟩
    have HG : Hid _ := g2
    have HX : Hid _ := x2
    clear g2 x2
    go_wp2
    go_ret
    exact ⟨rfl, HG.out, HX.out⟩
  · obtain ⟨hw0, hw1, hgl, hgq⟩ := h8 k8
    obtain ⟨u, p, hvl⟩ := hw0.val (.inr (.inl rfl))
    obtain ⟨u2, p2, hvq⟩ := hw1.val (.inr (.inl rfl))
    have own8 : ∀ W, Own W b a l q → W.cell? ⟨b, 0, none⟩ = some (.int .i64 a.op) ∧ W.cell? ⟨b, 1, none⟩ = some (valT l) ∧ W.cell? ⟨b, 2, none⟩ = some (valT q) := fun W ho => by
      obtain ⟨cs, hc, h1, h2, h3⟩ := own_tag ho (n := 8) k8
      exact ⟨by rw [cell_of_row _ _ _ _ _ _ hc]; exact h1, by rw [cell_of_row _ _ _ _ _ _ hc]; exact h2, by rw [cell_of_row _ _ _ _ _ _ hc]; exact h3⟩
    obtain ⟨n0, n1, _⟩ := own8 w hi.2.2
    have hop := hoka.op8 k8
    have hcall := hgl rb fb vars value r w h hi.1
    rw [hvl] at n1 hcall
    have hmn := cdW_mn (lens := lensOf al) (vars := vars) hC l r
    have hX : cdW (lensOf al) C vars (.node b o a l q) r = (if a.op = 32 then (if (cdW (lensOf al) C vars l r).1 then cdW (lensOf al) C vars q (cdW (lensOf al) C vars l r).2 else (false, (cdW (lensOf al) C vars l r).2)) else (if (cdW (lensOf al) C vars l r).1 then (true, (cdW (lensOf al) C vars l r).2) else cdW (lensOf al) C vars q (cdW (lensOf al) C vars l r).2)) := if_neg (by omega)
    rw [hX, show ityp a.tag = 407 by rw [k8]; rfl]
    have HH : Hid (XW B pb rb fb d al fl vars value r w) := h
    have HI : Hid (IsT w (.node b o a l q)) := hi
    have HO8 : Hid _ := own8
    have HGQ : Hid (∀ w2, XW B pb rb fb d al fl vars value (cdW (lensOf al) C vars l r).2 w2 → IsT w2 q → Calls Tryz.prog 257 #[.pointer (some ⟨fb, 0, none⟩), .iface u2 (.pointer (some p2))] w2 (PostB B pb rb (cdW (lensOf al) C vars q (cdW (lensOf al) C vars l r).2).1 (cdW (lensOf al) C vars q (cdW (lensOf al) C vars l r).2).2 w2)) := fun w2 h2 i2 => by
      have := hgq rb fb vars value _ w2 h2 i2
      rw [hvq] at this
      exact this
    clear hgl hgq h hi hX h7 h8 own8 hoka hwl hwr hw k8
    generalize cdW (lensOf al) C vars q (cdW (lensOf al) C vars l r).2 = y at *
    generalize cdW (lensOf al) C vars l r = x at *
    obtain ⟨A, r2⟩ := x
    obtain ⟨D, r3⟩ := y
    dsimp only at *
    generalize hopn : a.op = op at *
    have HOP : Hid _ := hopn
    clear hopn
    rcases hop with rfl | rfl
    · rw [if_pos rfl]
      cases A
      · rw [if_neg (by decide)]
        go_enter Tryz.func257, Tryz.ntmps257
        go_wp2_with fail
        refine hcall.mono ?_
        rintro e W2 ⟨rfl, g2, x2⟩
        have HG : Hid _ := g2
        have HX : Hid _ := x2
        clear g2 x2
        go_wp2
        go_ret
        exact ⟨rfl, HG.out, HX.out⟩
      · rw [if_pos rfl]
        go_enter Tryz.func257, Tryz.ntmps257
        go_wp2_with fail
        refine hcall.mono ?_
        rintro e W2 ⟨rfl, g2, x2⟩
        have X2 := HH.out.wx g2 x2 hmn
        have i2 : IsT W2 (.node b o a l q) := IsT.wx HH.out.rn x2 HI.out
        obtain ⟨_, _, m2⟩ := HO8.out W2 i2.2.2
        rw [hvq] at m2
        have hcall2 := HGQ.out W2 X2 i2.2.1
        have HX : Hid _ := x2
        clear g2 x2 X2 i2 hcall
        go_wp2_with fail
        refine hcall2.mono ?_
        rintro e W3 ⟨rfl, g3, x3⟩
        have HG : Hid _ := g3
        have HX3 : Hid _ := x3
        clear g3 x3
        go_wp2
        go_ret
        exact ⟨rfl, HG.out, HX.out.trans HX3.out⟩
    · rw [if_neg (by decide)]
      cases A
      · rw [if_neg (by decide)]
        go_enter Tryz.func257, Tryz.ntmps257
        go_wp2_with fail
        refine hcall.mono ?_
        rintro e W2 ⟨rfl, g2, x2⟩
        have X2 := HH.out.wx g2 x2 hmn
        have i2 : IsT W2 (.node b o a l q) := IsT.wx HH.out.rn x2 HI.out
        obtain ⟨_, _, m2⟩ := HO8.out W2 i2.2.2
        rw [hvq] at m2
        have hcall2 := HGQ.out W2 X2 i2.2.1
        have HX : Hid _ := x2
        clear g2 x2 X2 i2 hcall
        go_wp2_with fail
        refine hcall2.mono ?_
        rintro e W3 ⟨rfl, g3, x3⟩
        have HG : Hid _ := g3
        have HX3 : Hid _ := x3
        clear g3 x3
        go_wp2
        go_ret
        exact ⟨rfl, HG.out, HX.out.trans HX3.out⟩
      · rw [if_pos rfl]
        go_enter Tryz.func257, Tryz.ntmps257
        go_wp2_with fail
        refine hcall.mono ?_
        rintro e W2 ⟨rfl, g2, x2⟩
        have HG : Hid _ := g2
        have HX : Hid _ := x2
        clear g2 x2
        go_wp2
        go_ret
        exact ⟨rfl, HG.out, HX.out⟩
end Go.Proofs.YtikffmloeifkpaaGreatDoor

/- Package walk: what is told. -/
namespace Go.Proofs.YtikffmloeifkpaaGreatDoor
open Go.RowKit Go.Lib Go.Deep Go.ChangeMaps Go.MapKept
variable {C : Cl} {vars : Nat → Int} {B pb rb fb d : Nat} {r : Rn} {w w' u : World} {value : Int} {al fl : List Tr}

theorem Tryz.infoI6 : (Tryz.prog.info? 2).map (fun i => (i.zero, i.size, i.bytes)) = some (some (.int .i64 0), 1, 8) := by kernel_rfl
theorem RnC.setOuts {vO v : Value} {cs : Array Value} (h : RnC pb r vO cs) (l : List Int) : RnC pb { r with outs := l } v (cs.setIfInBounds 390 v) :=
  ⟨at_ne (by omega) h.prog, fun i hi => at_ne (by omega) (h.arr i hi), at_ne (by omega) h.fuel, at_ne (by omega) h.calls, at_ne (by omega) h.fin, at_ne (by omega) h.value, at_ne (by omega) h.site, at_eq h.outs⟩

set_option maxRecDepth 100000 in
set_option maxHeartbeats 4000000 in
theorem out_x (v : Int) (w : World) (hX : XW B pb rb fb d al fl vars value r w) : Calls Tryz.prog 259 #[.pointer (some ⟨fb, 0, none⟩), .int .i64 v] w fun e w' => e = .returned (.tuple #[]) ∧ RnW B pb rb (r.out v) w' ∧ Wx B rb w w' := by
  have h := hX.rn
  obtain ⟨f0, _, _, _⟩ := hX.fm.cells
  have HW : Hid (Calls Tryz.prog 80 #[.pointer (some ⟨rb, 0, none⟩)] w fun e w' => e = .returned (.bool (r.fin != 0)) ∧ w = w') := over_any w h
  by_cases h0 : r.fin = 0
  · have t0 : (r.fin != 0) = false := by simp [h0]
    have hout : r.out v = { r with outs := r.outs ++ [v] } := if_pos h0
    have hS : r.outs.length ≤ 20000 := by have := hX.bd.outs; omega
    obtain ⟨i0, hi0, hz0, hz1, hz2⟩ := info_parts Tryz.infoI6
    obtain ⟨cs, vO, hc, hcs, ho⟩ := h.ex
    have hrl := (Array.getElem?_eq_some_iff.1 hc).1
    obtain ⟨ao, cp, rfl, hao⟩ := slice_any ho
    have c4 : w.cell? ⟨rb, 390, none⟩ = some (.slice ao r.outs.length cp) := by rw [cell_of_row _ _ _ _ _ _ hc]; exact hcs.outs
    have f4 : w.frozen? ⟨rb, 390, none⟩ = false := by simp [World.frozen?, hc]
    obtain ⟨fcs, hfc, _⟩ := hX.fm
    have hfl := (Array.getElem?_eq_some_iff.1 hfc).1
    have hBw : B ≤ w.heap.size := by have := h.ge; omega
    have ag : some rb ≠ (Value.slice ao r.outs.length cp).ownBlock := fun e => by
      obtain ⟨⟨c2, hc2⟩, _⟩ := own_typ ho e.symm
      exact ne_typ hc hc2 (by decide) rfl
    have agf : some fb ≠ (Value.slice ao r.outs.length cp).ownBlock := fun e => by
      obtain ⟨⟨c2, hc2⟩, _⟩ := own_typ ho e.symm
      exact ne_typ hfc hc2 (by decide) rfl
    have FIN : Hid (∀ (g cap : Nat) (w1 : World), w1.ownsRow B 2 1 (.slice (some ⟨g, 0, none⟩) (r.outs.length + 1) cap) (r.outs.length + 1) (r.outs.map (Value.int .i64) ++ [.int .i64 v]) →
        ((w.alloc (.cells #[.int .i64 v] 2)).drew).grownBy w1 (Value.slice ao r.outs.length cp).ownBlock → ((Value.slice ao r.outs.length cp).ownBlock = some g ∨ g = w.heap.size + 1) →
        RnW B pb rb (r.out v) (w1.setCell ⟨rb, 390, none⟩ (.slice (some ⟨g, 0, none⟩) (r.outs.length + 1) cap)) ∧ Wx B rb w (w1.setCell ⟨rb, 390, none⟩ (.slice (some ⟨g, 0, none⟩) (r.outs.length + 1) cap))) := by
      intro g cap w1 hown1 hgrow hat
      have z1 : (w.alloc (.cells #[.int .i64 v] 2)).drew.heap.size = w.heap.size + 1 := by show (w.alloc _).heap.size = _; simp
      have off : ∀ {j : Nat}, j < w.heap.size → some j ≠ (Value.slice ao r.outs.length cp).ownBlock → w1.heap[j]? = w.heap[j]? := fun {j} hj hne =>
        (hgrow.block j (by rw [z1]; omega) hne).trans (Below.heap_alloc _ _ _ hj)
      have hc1 := (off hrl ag).trans hc
      have hgr : g ≠ rb := by
        rcases hat with e | e
        · intro e2; rw [e2] at e; exact ag e.symm
        · omega
      have wx1 : Wx B rb w w1 := by
        refine ⟨hgrow.os, hgrow.tape, hgrow.output, by have := hgrow.size; rw [z1] at this; omega, fun k hk _ hkl => off hkl (fun e => ?_), fun k c t hk _ ht => (off (Array.getElem?_eq_some_iff.1 hk).1 (fun e => ?_)).trans hk⟩
        · have := (own_typ ho e.symm).2; omega
        · obtain ⟨⟨c2, hc2⟩, _⟩ := own_typ ho e.symm
          exact ne_typ hk hc2 ht rfl
      refine ⟨?_, wx1.set _ _⟩
      rw [hout]
      refine ⟨⟨_, _, heap_set (o := 390) _ hc1, hcs.setOuts _, ?_⟩, h.ge, h.few.1, h.few.2.1, by rw [List.length_append]; simp only [List.length_cons, List.length_nil]; omega⟩
      have hle : (r.outs ++ [v]).length = r.outs.length + 1 := by simp
      rw [show ({ r with outs := r.outs ++ [v] } : Rn).outs = r.outs ++ [v] from rfl, hle, List.map_append]
      refine ⟨hown1.1, ?_⟩
      rcases hown1.2 with ⟨hx, _⟩ | ⟨g', cap', cur, hv', hb', hh, r'⟩
      · cases hx
      · refine .inr ⟨g', cap', cur, hv', hb', ?_, r'⟩
        simp only [Value.slice.injEq, Option.some.injEq, Addr.mk.injEq] at hv'
        obtain ⟨⟨rfl, _, _⟩, _, _⟩ := hv'
        exact (Below.heap_setCell _ _ _ _ hgr).trans hh
    clear hc hfc h hX h0 hout hcs
    go_enter Tryz.func259, Tryz.ntmps259
    go_wp2_with fail
    refine HW.out.mono ?_
    rintro e w' ⟨rfl, rfl⟩
    go_wp2_with fail
    go_region_law
      ((refine step_append_lies _ (by rfl) _ _ _ (by rfl) B 2 i0 _ 1 8 Tryz.underlying30 hi0 hz0 hz1 hz2 rfl (by omega) (.slice ao r.outs.length cp) r.outs.length (r.outs.map (Value.int .i64)) (by rfl) ((ho.alloc _).drew)
          ⟨w.heap.size, 0, none⟩ 1 1 [.int .i64 v] (by rfl) (by rfl) (World.news_of_block (cs := #[.int .i64 v]) (t := 2) (fr := (0, 0)) (heap_alloc_new w _)) (by simp [Value.oneCell'])
          (by omega) (by unfold maxLen; omega) (by omega) (by simp; omega) (w.heap.size + 1) (by simp) ?_; intro g cap w1 hown1 hgrow hat hlt1; have q1 := (hgrow.cell_far ⟨rb, 390, none⟩ (keepL hrl) ag).trans (keepC hrl c4); have q2 := (hgrow.frozen_far ⟨rb, 390, none⟩ (keepL hrl) ag).trans (keepF hrl f4); have q3 := (hgrow.cell_far ⟨fb, 0, none⟩ (keepL hfl) agf).trans (keepC hfl f0)))
    all_goals obtain ⟨f1, f2⟩ := FIN.out g cap w1 hown1 hgrow hat
    all_goals go_wp2
    all_goals go_end0
    all_goals exact ⟨rfl, f1, f2⟩
  · have t0 : (r.fin != 0) = true := by simp [h0]
    have FIN : Hid (RnW B pb rb (r.out v) w) := by rw [Hid, show r.out v = r from if_neg h0]; exact h
    clear h h0 hX
    go_enter Tryz.func259, Tryz.ntmps259
    go_wp2_with fail
    refine HW.out.mono ?_
    rintro e w' ⟨rfl, rfl⟩
    go_wp2
    go_end0
    exact ⟨rfl, FIN.out, Wx.refl _ _ _⟩
end Go.Proofs.YtikffmloeifkpaaGreatDoor

/- Package walk: a store. -/
namespace Go.Proofs.YtikffmloeifkpaaGreatDoor
open Go.RowKit Go.Lib Go.Deep Go.ChangeMaps Go.MapKept
variable {C : Cl} {vars : Nat → Int} {B pb rb fb d : Nat} {r : Rn} {w w' u : World} {value : Int} {al fl : List Tr}

/-- What a store does to a run. -/
def stoW (lens : Nat → Int) (k i v s : Int) (r : Rn) : Rn := if inside lens k i then { r with arr := upd r.arr (cellNo k i) v } else r.trap s

set_option maxRecDepth 100000 in
set_option maxHeartbeats 8000000 in
theorem store_x {b o : Nat} {a : Nd} {l q : Tr} (ht : a.tag = 10) (hC : COk C) (hk : 0 ≤ a.which ∧ a.which < al.length) (hl : Ws 0 l ∧ GX 200 B pb d C al fl valT l) (hq : Ws 0 q ∧ GX 200 B pb d C al fl valT q)
    (vars : Nat → Int) (value : Int) (r : Rn) (w : World) (h : XW B pb rb fb d al fl vars value r w) (hi : IsT w (.node b o a l q)) :
    Calls Tryz.prog 256 #[.pointer (some ⟨fb, 0, none⟩), .pointer (some ⟨b, 0, none⟩)] w fun e w' => e = .returned (.tuple #[]) ∧
      RnW B pb rb (stoW (lensOf al) a.which (hd (exW (lensOf al) C vars l r).1) (hd (exW (lensOf al) C vars q (exW (lensOf al) C vars l r).2).1) a.site (exW (lensOf al) C vars q (exW (lensOf al) C vars l r).2).2) w' ∧ Wx B rb w w' := by
  obtain ⟨k, hkk⟩ : ∃ k : Nat, a.which = k := ⟨a.which.toNat, by omega⟩
  have hka : k < al.length := by omega
  obtain ⟨hwl, hgl⟩ := hl
  obtain ⟨hwq, hgq⟩ := hq
  obtain ⟨u, p, hvl⟩ := hwl.val (.inl rfl)
  obtain ⟨u2, p2, hvq⟩ := hwq.val (.inl rfl)
  have cellsO : ∀ W : World, Own W b a l q → W.cell? ⟨b, 0, none⟩ = some (.string a.name) ∧ W.cell? ⟨b, 1, none⟩ = some (.int .i64 a.npos) ∧ W.cell? ⟨b, 2, none⟩ = some (.int .i64 (k : Int)) ∧ W.cell? ⟨b, 3, none⟩ = some (valT l) ∧ W.cell? ⟨b, 4, none⟩ = some (valT q) ∧ W.cell? ⟨b, 5, none⟩ = some (.int .i64 a.site) := fun W ho => by
    obtain ⟨cs, hc, hn, h3, h4, h5⟩ := own_tag ho (n := 10) ht
    have hn2 : cs[2]? = some (.int .i64 (k : Int)) := by rw [← hkk]; exact hn.2.2
    exact ⟨by rw [cell_of_row _ _ _ _ _ _ hc]; exact hn.1, by rw [cell_of_row _ _ _ _ _ _ hc]; exact hn.2.1, by rw [cell_of_row _ _ _ _ _ _ hc]; exact hn2, by rw [cell_of_row _ _ _ _ _ _ hc]; exact h3, by rw [cell_of_row _ _ _ _ _ _ hc]; exact h4, by rw [cell_of_row _ _ _ _ _ _ hc]; exact h5⟩
  have hcall := hgl rb fb vars value r w h hi.1
  obtain ⟨_, _, _, m3, _, _⟩ := cellsO w hi.2.2
  rw [hvl] at m3 hcall
  have hmn := exW_mn (lens := lensOf al) (vars := vars) hC l r
  have hmn2 := exW_mn (lens := lensOf al) (vars := vars) hC q (exW (lensOf al) C vars l r).2
  have HO : Hid _ := cellsO
  have HI : Hid (IsT w (.node b o a l q)) := hi
  have HH : Hid (XW B pb rb fb d al fl vars value r w) := h
  have HGQ : Hid (∀ w2, XW B pb rb fb d al fl vars value (exW (lensOf al) C vars l r).2 w2 → IsT w2 q → Calls Tryz.prog 200 #[.pointer (some ⟨fb, 0, none⟩), .iface u2 (.pointer (some p2))] w2 (PostX B pb rb (hd (exW (lensOf al) C vars q (exW (lensOf al) C vars l r).2).1) (exW (lensOf al) C vars q (exW (lensOf al) C vars l r).2).2 w2)) := fun w2 h2 i2 => by
    have := hgq rb fb vars value _ w2 h2 i2
    rw [hvq] at this
    exact this
  rw [hkk]
  generalize exW (lensOf al) C vars q (exW (lensOf al) C vars l r).2 = y at *
  generalize exW (lensOf al) C vars l r = x at *
  obtain ⟨xl, r2⟩ := x
  obtain ⟨yl, r3⟩ := y
  dsimp only at *
  generalize hd xl = i at *
  generalize hd yl = D at *
  clear cellsO hi h hgl hgq hk
  have hkI : 0 ≤ (k : Int) ∧ (k : Int) < (al.length : Int) := by omega
  clear hkk
  have hcases : (∃ n : Nat, i = n ∧ n < 64 ∧ k < 6 ∧ inside (lensOf al) (k : Int) i = true) ∨ inside (lensOf al) (k : Int) i = false := by
    cases hin : inside (lensOf al) (k : Int) i
    · exact .inr rfl
    · left
      obtain ⟨g9, cp9, b9, _, _, _, l1, l2⟩ := HH.out.pg.at hka
      have hf := HH.out.pg.few
      unfold inside at hin
      simp only [Bool.and_eq_true, decide_eq_true_eq, Int.toNat_natCast] at hin
      exact ⟨i.toNat, by omega, by omega, by omega, rfl⟩
  rcases hcases with ⟨n, rfl, hn64, hk6, hin⟩ | hin
  · have hst : Hid (stoW (lensOf al) k n D a.site r3 = { r3 with arr := upd r3.arr (cellNo k n) D }) := by rw [Hid]; unfold stoW; rw [if_pos hin]
    have hnI : 0 ≤ (n : Int) ∧ (n : Int) < 64 := by omega
    have hkJ : 0 ≤ (k : Int) ∧ (k : Int) < 6 := by omega
    go_enter Tryz.func256, Tryz.ntmps256
    go_wp2_with fail
    refine hcall.mono ?_
    rintro e W2 ⟨rfl, h2, x2⟩
    have X2 := HH.out.wx h2 x2 hmn
    have i2 : IsT W2 (.node b o a l q) := IsT.wx HH.out.rn x2 HI.out
    obtain ⟨_, _, _, _, m4, _⟩ := HO.out W2 i2.2.2
    rw [hvq] at m4
    have hcall2 := HGQ.out W2 X2 i2.2.1
    have HX2 : Hid _ := X2
    have Hx2 : Hid _ := x2
    have HI2 : Hid (IsT W2 (.node b o a l q)) := i2
    clear X2 x2 i2 h2 hcall m3
    go_wp2_with fail
    refine hcall2.mono ?_
    rintro e W3 ⟨rfl, h3, x3⟩
    have X3 := HX2.out.wx h3 x3 hmn2
    have i3 : IsT W3 (.node b o a l q) := IsT.wx HX2.out.rn x3 HI2.out
    obtain ⟨n0, n1, n2, _, _, n5⟩ := HO.out W3 i3.2.2
    have hwi := within_any W3.drew h3.drew (show FmW rb fb vars value W3.drew from X3.fm) X3.pg.drew a.name a.npos k hka n a.site
    rw [hin] at hwi
    have HX3 : Hid _ := X3
    have Hx3 : Hid _ := Hx2.out.trans x3
    have HO3 : Hid (Own W3 b a l q) := i3.2.2
    clear X3 x3 i3 h3 hcall2 m4 hin
    go_wp2_with fail
    go_region_held3 (fun w' => w'.cell? ⟨b, 0, none⟩ = some (.string a.name) ∧ w'.cell? ⟨b, 1, none⟩ = some (.int .i64 a.npos) ∧ w'.cell? ⟨b, 2, none⟩ = some (.int .i64 k) ∧ w'.cell? ⟨b, 5, none⟩ = some (.int .i64 a.site))
      (first
        | (refine ⟨?_, ?_, ?_, ?_⟩ <;> assumption)
        | go_keep)
      ((refine step_call rfl 304 #[.pointer (some ⟨fb, 0, none⟩), .agg #[.string a.name, .int .i64 a.npos, .int .i64 k], .int .i64 n, .int .i64 a.site] _ (by go_simp) hwi ?_; rintro e W4 ⟨rfl, h4, x4⟩; refine ⟨_, rfl, ?_⟩; have o4 : Own W4 b a l q := OwnN.wx (w := W3.drew) HX3.out.rn.drew x4 HO3.out; obtain ⟨p0, p1, p2, _, _, p5⟩ := HO.out W4 o4))
    have h4' : RnW B pb rb r3 W4 := h4
    have f4 := ((show FmW rb fb vars value W3.drew from HX3.out.fm).wx x4 (HX3.out.fm.ne HX3.out.rn)).cells.1
    have a4 : W4.cell? ⟨rb, 1 + k * 64 + n, none⟩ = some (.int .i64 (r3.arr (cellNo k n))) := by
      rw [show 1 + k * 64 + n = cellNo k n + 1 by unfold cellNo; simp only [Int.toNat_natCast]; omega]
      exact h4'.arrAt (by unfold cellNo; simp only [Int.toNat_natCast]; omega)
    have z4 := h4'.cells.2.2.2.2.2
    have FIN : Hid (RnW B pb rb (stoW (lensOf al) k n D a.site r3) (W4.setCell ⟨rb, 1 + k * 64 + n, none⟩ (.int .i64 D))) := by
      rw [Hid, hst.out, show 1 + k * 64 + n = cellNo k n + 1 by unfold cellNo; simp only [Int.toNat_natCast]; omega]
      exact h4'.put ⟨h4'.few.1, h4'.few.2.1⟩ rfl (fun cs vO hc => hc.setArr (by unfold cellNo; simp only [Int.toNat_natCast]; omega) D)
    have HX4 : Hid _ := x4
    clear h4 x4 h4' o4
    generalize r3.arr (cellNo k n) = V at *
    go_wp2_with fail
    go_region
    all_goals go_wp2
    all_goals go_end0
    all_goals exact ⟨rfl, FIN.out.drew, ((Hx3.out.drew.trans HX4.out).set _ _).drew⟩
  · have hst : Hid (stoW (lensOf al) k i D a.site r3 = r3.trap a.site) := by rw [Hid]; unfold stoW; rw [if_neg (by rw [hin]; decide)]
    go_enter Tryz.func256, Tryz.ntmps256
    go_wp2_with fail
    refine hcall.mono ?_
    rintro e W2 ⟨rfl, h2, x2⟩
    have X2 := HH.out.wx h2 x2 hmn
    have i2 : IsT W2 (.node b o a l q) := IsT.wx HH.out.rn x2 HI.out
    obtain ⟨_, _, _, _, m4, _⟩ := HO.out W2 i2.2.2
    rw [hvq] at m4
    have hcall2 := HGQ.out W2 X2 i2.2.1
    have HX2 : Hid _ := X2
    have Hx2 : Hid _ := x2
    have HI2 : Hid (IsT W2 (.node b o a l q)) := i2
    clear X2 x2 i2 h2 hcall m3
    go_wp2_with fail
    refine hcall2.mono ?_
    rintro e W3 ⟨rfl, h3, x3⟩
    have X3 := HX2.out.wx h3 x3 hmn2
    have i3 : IsT W3 (.node b o a l q) := IsT.wx HX2.out.rn x3 HI2.out
    obtain ⟨n0, n1, n2, _, _, n5⟩ := HO.out W3 i3.2.2
    have hwi := within_any W3.drew h3.drew (show FmW rb fb vars value W3.drew from X3.fm) X3.pg.drew a.name a.npos k hka i a.site
    rw [hin] at hwi
    have HX3 : Hid _ := X3
    have Hx3 : Hid _ := Hx2.out.trans x3
    have HO3 : Hid (Own W3 b a l q) := i3.2.2
    clear X3 x3 i3 h3 hcall2 m4 hin
    go_wp2_with fail
    go_region_held3 (fun w' => w'.cell? ⟨b, 0, none⟩ = some (.string a.name) ∧ w'.cell? ⟨b, 1, none⟩ = some (.int .i64 a.npos) ∧ w'.cell? ⟨b, 2, none⟩ = some (.int .i64 k) ∧ w'.cell? ⟨b, 5, none⟩ = some (.int .i64 a.site))
      (first
        | (refine ⟨?_, ?_, ?_, ?_⟩ <;> assumption)
        | go_keep)
      ((refine step_call rfl 304 #[.pointer (some ⟨fb, 0, none⟩), .agg #[.string a.name, .int .i64 a.npos, .int .i64 k], .int .i64 i, .int .i64 a.site] _ (by go_simp) hwi ?_; rintro e W4 ⟨rfl, h4, x4⟩; refine ⟨_, rfl, ?_⟩; have o4 : Own W4 b a l q := OwnN.wx (w := W3.drew) HX3.out.rn.drew x4 HO3.out; obtain ⟨p0, p1, p2, _, _, p5⟩ := HO.out W4 o4))
    have FIN : Hid (RnW B pb rb (stoW (lensOf al) k i D a.site r3) W4) := by rw [Hid, hst.out]; exact h4
    have HX4 : Hid _ := x4
    clear h4 x4 o4
    go_wp2
    go_end0
    exact ⟨rfl, FIN.out, Hx3.out.drew.trans HX4.out⟩
end Go.Proofs.YtikffmloeifkpaaGreatDoor

/- Package walk: conditions of functions, plainly. -/
namespace Go.Proofs.YtikffmloeifkpaaGreatDoor
open Go.RowKit Go.Lib Go.Deep Go.ChangeMaps Go.MapKept
variable {vars : Nat → Int}

theorem atom_still {t : Tr} (h : Ws 21 t) : ∃ v, ∀ lens C r, exW lens C vars t r = ([v], r) := by
  cases t with
  | nil => exact absurd h (by unfold Ws nilOk; simp)
  | node b o a l q =>
    obtain ⟨_, x, y, hsig, _⟩ := h.parts
    by_cases h0 : a.tag = 0
    · exact ⟨a.val, fun lens C r => if_pos h0⟩
    by_cases h1 : a.tag = 1
    · exact ⟨vars a.which.toNat, fun lens C r => (if_neg h0).trans (if_pos h1)⟩
    · exfalso
      have h2 : ¬ a.tag ≤ 1 := by omega
      simp [sig, h2] at hsig
theorem cond_still {t : Tr} (h : Ws 20 t) : ∃ v, ∀ lens C r, cdW lens C vars t r = (v, r) := by
  cases t with
  | nil => exact absurd h (by unfold Ws nilOk; simp)
  | node b o a l q =>
    obtain ⟨_, x, y, hsig, hl, hq⟩ := h.parts
    have h7 : a.tag = 7 := by
      by_cases h : a.tag = 7
      · exact h
      · exfalso; simp [sig, h] at hsig
    rw [h7] at hsig
    cases hsig
    obtain ⟨v, hv⟩ := atom_still (vars := vars) hl
    obtain ⟨u, hu⟩ := atom_still (vars := vars) hq
    refine ⟨holds a.op v u, fun lens C r => ?_⟩
    have e : cdW lens C vars (.node b o a l q) r = (holds a.op (hd (exW lens C vars l r).1) (hd (exW lens C vars q (exW lens C vars l r).2).1), (exW lens C vars q (exW lens C vars l r).2).2) := if_pos h7
    rw [e, hv, hu]
    rfl
/-- A function's conditions, one ahead. -/
theorem tk_cons {b o : Nat} {a : Nd} {e q : Tr} (h15 : a.tag = 15) {lens : Nat → Int} {C : Cl} {r : Rn} (he : Ws 20 e) : tkW vars (.node b o a e q) = ((cdW lens C vars e r).1 && tkW vars q) := by
  obtain ⟨v, hv⟩ := cond_still (vars := vars) he
  have e1 : tkW vars (.node b o a e q) = ((cdW (fun _ => 0) (fun _ _ _ r => (0, r)) vars e ⟨fun _ => 0, 0, 0, 0, 0, []⟩).1 && tkW vars q) := if_neg (by omega)
  rw [e1, hv, hv]
theorem tk_list {t : Tr} (h : Ws 5 t) : tkW vars t = tkW vars (elems t) := by
  rcases h.lst (.inr (.inr (.inl rfl))) with rfl | ⟨b, o, a, l, rfl, ht, _⟩
  · rfl
  · exact if_pos ht
end Go.Proofs.YtikffmloeifkpaaGreatDoor

/- Package walk: takes. -/
namespace Go.Proofs.YtikffmloeifkpaaGreatDoor
open Go.RowKit Go.Lib Go.Deep Go.ChangeMaps Go.MapKept
variable {C : Cl} {vars : Nat → Int} {B pb rb fb d : Nat} {r : Rn} {w w' u : World} {value : Int} {al fl : List Tr}

set_option maxRecDepth 100000 in
set_option maxHeartbeats 8000000 in
theorem takes_x {cb : Nat} {p : Tr} (hwp : Ws 5 p) (hA : AllG (fun e => Ws 20 e ∧ GB 130 B pb d C al fl ptrT e) (elems p)) (w : World) (h : XW B pb rb fb d al fl vars value r w) (hi : IsT w p) (hc : w.cell? ⟨cb, 4, none⟩ = some (valT p)) :
    Calls Tryz.prog 77 #[.pointer (some ⟨fb, 0, none⟩), .pointer (some ⟨cb, 0, none⟩)] w fun e w' => e = .returned (.bool (tkW vars p)) ∧ RnW B pb rb r w' ∧ Wx B rb w w' := by
  obtain ⟨ao, cp, hvl⟩ := hwp.lstval (.inr (.inr (.inl rfl)))
  have hlen := lenV_le (.inr (.inr (.inl rfl))) hwp
  have hwel := hwp.elems (.inr (.inr (.inl rfl)))
  rw [tk_list hwp]
  rw [hvl] at hc
  have HWL : Hid (Ws 5 p) := hwp
  have HWE : Hid (Ws 15 (elems p)) := hwel
  have L0 : XW B pb rb fb d al fl vars value r w ∧ IsT w p ∧ Wx B rb w w := ⟨h, hi, Wx.refl _ _ _⟩
  obtain ⟨T, hT⟩ : ∃ T, T = tkW vars (elems p) := ⟨_, rfl⟩
  rw [← hT]
  have hT0 : T = tkW vars (dropL 0 (elems p)) := hT
  clear h hi hwel hwp hT
  go_enter Tryz.func77, Tryz.ntmps77
  go_wp2_with fail
  go_loopg [12] (lenV p) (fun m v wr => ∃ i : Nat, v = .int .i64 i ∧ i ≤ lenV p ∧ lenV p ≤ i + m ∧ T = tkW vars (dropL i (elems p)) ∧ XW B pb rb fb d al fl vars value r wr ∧ IsT wr p ∧ Wx B rb w wr)
  case atStart => exact ⟨0, rfl, Nat.zero_le _, by omega, hT0, L0⟩
  case round =>
    clear L0 hT0
    obtain ⟨i, rfl, hle, hm, hT, X, hiT, hx⟩ := hrel
    by_cases hlt : i < lenV p
    · have hltI : (i : Int) < (lenV p : Int) := by omega
      obtain ⟨b2, o2, a2, e2, r2, hd, hd2⟩ := dropL_lt i (elems p) (by rw [← lenV_elems]; exact hlt)
      have hAi := AllG.drop i _ hA
      have hwd := ws_drop (.inr (.inr (.inl rfl))) i _ HWE.out
      rw [hd] at hAi hT hwd
      obtain ⟨h15, ⟨hE, hG⟩, _⟩ := hAi
      obtain ⟨b3, o3, a3, l3, q3, rfl, h7⟩ : ∃ b o a l q, e2 = .node b o a l q ∧ a.tag = 7 := by
        cases e2 with
        | nil => exact absurd hE (by unfold Ws nilOk; simp)
        | node b o a l q =>
          obtain ⟨_, x, y, hsig, _⟩ := hE.parts
          refine ⟨b, o, a, l, q, rfl, ?_⟩
          by_cases h : a.tag = 7
          · exact h
          · exfalso; simp [sig, h] at hsig
      obtain ⟨gg, rfl, hcell⟩ := lst_cell7 (H := 0) HWL.out hiT (Fr.refl 0 F0 wr) F0.body hvl hd ⟨b3, o3, a3, l3, q3, rfl, h7⟩
      have hcell : wr.cell? ⟨gg, i, none⟩ = some (.pointer (some ⟨b3, 0, none⟩)) := hcell
      have hie : IsT wr (.node b3 o3 a3 l3 q3) := by
        have h1 : IsT wr (elems p) := by
          cases p with
          | nil => trivial
          | node => exact hiT.1
        have h2 := isT_drop i _ h1
        rw [hd] at h2
        exact h2.1
      have hcall := hG rb fb vars value r wr X hie
      obtain ⟨v, hv⟩ := cond_still (vars := vars) hE
      rw [hv] at hcall
      have hcall : Calls Tryz.prog 130 #[.pointer (some ⟨fb, 0, none⟩), .pointer (some ⟨b3, 0, none⟩)] wr (PostB B pb rb v r wr) := hcall
      have hTT : T = (v && tkW vars r2) := by
        rw [hT, tk_cons (lens := lensOf al) (C := C) (r := r) h15 hE, hv]
      have HX : Hid _ := X
      have HXX : Hid (Wx B rb w wr) := hx
      have HIT : Hid (IsT wr p) := hiT
      have HD2 : Hid (dropL (i + 1) (elems p) = r2) := hd2
      clear hG hE hd hd2 hie X hx hiT hv hT hwd h7 h15
      cases v
      · have HTF : Hid (T = false) := hTT
        clear hTT
        go_wp2_with fail
        refine hcall.mono ?_
        rintro e W3 ⟨rfl, g3, x3⟩
        have HG : Hid _ := g3
        have HX3 : Hid _ := HXX.out.trans x3
        clear g3 x3
        go_wp2
        go_ret
        exact ⟨ret_bool (by rw [HTF.out]), HG.out, HX3.out⟩
      · have HTF : Hid (T = tkW vars r2) := by rw [Hid, hTT]; rfl
        clear hTT
        go_wp2_with fail
        refine hcall.mono ?_
        rintro e W3 ⟨rfl, g3, x3⟩
        obtain ⟨m, rfl⟩ : ∃ m, gk = m + 1 := ⟨gk - 1, by omega⟩
        have fin : ∃ i' : Nat, Value.int .i64 ((i : Int) + 1) = .int .i64 i' ∧ i' ≤ lenV p ∧ lenV p ≤ i' + m ∧ T = tkW vars (dropL i' (elems p)) ∧ XW B pb rb fb d al fl vars value r W3 ∧ IsT W3 p ∧ Wx B rb w W3 :=
          ⟨i + 1, by simp, by omega, by omega, by rw [HD2.out]; exact HTF.out, HX.out.wx g3 x3 (Mn.refl _), IsT.wx HX.out.rn x3 HIT.out, HXX.out.trans x3⟩
        clear g3 x3 HX HXX HIT HD2 HTF
        go_wp2
        go_roundg m
        case rel => exact fin
        case measure => omega
    · have hltI : ¬ (i : Int) < (lenV p : Int) := by omega
      have HTT : Hid (T = true) := by
        rw [Hid, hT, show i = lenL (elems p) by rw [← lenV_elems]; omega, dropL_end]; rfl
      have HR : Hid _ := X.rn
      have HXX : Hid _ := hx
      clear X hx hiT hT
      go_wp2
      go_ret
      exact ⟨ret_bool (by rw [HTT.out]), HR.out, HXX.out⟩
end Go.Proofs.YtikffmloeifkpaaGreatDoor

/- Package walk: what a statement may change. -/
namespace Go.Proofs.YtikffmloeifkpaaGreatDoor
open Go.RowKit Go.Lib Go.Deep Go.ChangeMaps Go.MapKept
variable {B pb rb fb d : Nat} {r : Rn} {w w' u : World} {vars : Nat → Int} {value : Int} {al fl : List Tr}

/-- As Wx, but the function's own block may change too. -/
structure Wy (B rb fb : Nat) (w w' : World) : Prop where
  os : w'.os = w.os
  tape : w'.tape = w.tape
  output : w'.output = w.output
  size : w.heap.size ≤ w'.heap.size
  low : ∀ k, k < B → k ≠ rb → k ≠ fb → k < w.heap.size → w'.heap[k]? = w.heap[k]?
  block : ∀ k cs t, w.heap[k]? = some (.cells cs t (0, 0)) → k ≠ rb → k ≠ fb → t ≠ 2 → w'.heap[k]? = some (.cells cs t (0, 0))
theorem Wx.y (h : Wx B rb w w') : Wy B rb fb w w' := ⟨h.os, h.tape, h.output, h.size, fun k h1 h2 _ h4 => h.low k h1 h2 h4, fun k cs t h1 h2 _ h4 => h.block k cs t h1 h2 h4⟩
theorem Wy.refl (B rb fb : Nat) (w : World) : Wy B rb fb w w := (Wx.refl _ _ _).y
theorem Wy.trans (h : Wy B rb fb u w) (k : Wy B rb fb w w') : Wy B rb fb u w' :=
  ⟨k.os.trans h.os, k.tape.trans h.tape, k.output.trans h.output, Nat.le_trans h.size k.size, fun i h1 h2 h3 h4 => (k.low i h1 h2 h3 (Nat.lt_of_lt_of_le h4 h.size)).trans (h.low i h1 h2 h3 h4), fun i cs t h1 h2 h3 h4 => k.block i cs t (h.block i cs t h1 h2 h3 h4) h2 h3 h4⟩
theorem Wy.set (h : Wy B rb fb u w) (o : Nat) (v : Value) : Wy B rb fb u (w.setCell ⟨fb, o, none⟩ v) :=
  h.trans ⟨rfl, rfl, rfl, by simp [World.setCell], fun _ _ _ h3 _ => Below.heap_setCell _ _ _ _ h3, fun _ _ _ h1 _ h3 _ => (Below.heap_setCell _ _ _ _ h3).trans h1⟩
theorem Wy.drewN (h : Wy B rb fb u w) (n : Nat) : Wy B rb fb u (w.drewN n) := ⟨h.os, h.tape, h.output, h.size, h.low, h.block⟩
theorem Wy.drew (h : Wy B rb fb u w) : Wy B rb fb u w.drew := ⟨h.os, h.tape, h.output, h.size, h.low, h.block⟩
/-- For a caller the function's block is new. -/
theorem Wy.caller (h : Wy B rb fb w w') (hu : Wx B rb u w) (hf : u.heap.size ≤ fb) : Wx B rb u w' :=
  ⟨h.os.trans hu.os, h.tape.trans hu.tape, h.output.trans hu.output, Nat.le_trans hu.size h.size,
    fun k h1 h2 h3 => (h.low k h1 h2 (by omega) (Nat.lt_of_lt_of_le h3 hu.size)).trans (hu.low k h1 h2 h3),
    fun k cs t h1 h2 h3 => h.block k cs t (hu.block k cs t h1 h2 h3) h2 (by have := (Array.getElem?_eq_some_iff.1 h1).1; omega) h3⟩
/-- Blocks of the program stay. -/
theorem At.wy {b : Nat} {t : TypeId} {Q : Array Value → Prop} (h : At w b t Q) (hr : RnW B pb rb r w) (hf : FmW rb fb vars value w) (hx : Wy B rb fb w w') (h1 : t ≠ 2) (h2 : t ≠ 162) (h3 : t ≠ 165) : At w' b t Q := by
  obtain ⟨cs, hc, hq⟩ := h
  obtain ⟨c2, _, hc2, _⟩ := hr.ex
  obtain ⟨c3, hc3, _⟩ := hf
  exact ⟨cs, hx.block _ _ _ hc (ne_typ hc hc2 h2) (ne_typ hc hc3 h3) h1, hq⟩
theorem rowTyp_wy (l : Tr) : rowTyp l ≠ 165 := by
  unfold rowTyp; repeat' split
  all_goals decide
theorem OwnN.wy {n b : Nat} {a : Nd} {l q : Tr} (hr : RnW B pb rb r w) (hf : FmW rb fb vars value w) (hx : Wy B rb fb w w') (h : OwnN n w b a l q) : OwnN n w' b a l q := by
  match n, h with
  | 0, h | 1, h | 2, h | 3, h | 4, h | 5, h | 6, h | 7, h | 8, h | 9, h | 10, h | 11, h | 12, h | 13, h | 14, h | 16, h | 17, h => exact At.wy h hr hf hx (by decide) (by decide) (by decide)
  | 20, h => exact ⟨h.1, h.2.wy hr hf hx (rowTyp_wx _).1 (rowTyp_wx _).2 (rowTyp_wy _)⟩
  | 15, _ | 18, _ | 19, _ => trivial
  | n + 21, _ => trivial
theorem IsT.wy (hr : RnW B pb rb r w) (hf : FmW rb fb vars value w) (hx : Wy B rb fb w w') : ∀ {t : Tr}, IsT w t → IsT w' t := by
  intro t
  induction t with
  | nil => intro _; trivial
  | node b o a l q ihl ihr => intro h; exact ⟨ihl h.1, ihr h.2.1, OwnN.wy hr hf hx h.2.2⟩
theorem own_wy {base n sz : Nat} {e : TypeId} {v : Value} {xs : List Value} (h : w.ownsRow base e sz v n xs) (hr : RnW B pb rb r w) (hf : FmW rb fb vars value w) (hx : Wy B rb fb w w') (h1 : e ≠ 2) (h2 : e ≠ 162) (h3 : e ≠ 165) : w'.ownsRow base e sz v n xs :=
  own_move h (fun k hk => by
    obtain ⟨⟨cs, hc⟩, _⟩ := own_typ h hk
    obtain ⟨c2, _, hc2, _⟩ := hr.ex
    obtain ⟨c3, hc3, _⟩ := hf
    rw [hc]
    exact hx.block _ _ _ hc (ne_typ hc hc2 h2) (ne_typ hc hc3 h3) h1)
theorem PgX.wy (h : PgX pb al fl w) (hr : RnW B pb rb r w) (hf : FmW rb fb vars value w) (hx : Wy B rb fb w w') : PgX pb al fl w' := by
  obtain ⟨it, vA, vF, m, vS, H, hp, hA, hF⟩ := h.prog
  obtain ⟨c2, _, hc2, _⟩ := hr.ex
  have hf' := hf
  obtain ⟨c3, hc3, _⟩ := hf'
  refine ⟨⟨it, vA, vF, m, vS, H, hx.block _ _ _ hp (ne_typ hp hc2 (by decide)) (ne_typ hp hc3 (by decide)) (by decide), own_wy hA hr hf hx (by decide) (by decide) (by decide), ⟨own_wy hF.row hr hf hx (by decide) (by decide) (by decide), fun e he => ?_⟩⟩, fun e he => ?_, h.few, fun e he => IsT.wy hr hf hx (h.fns e he)⟩
  · obtain ⟨b, o, a, l, x, y, z, p, q, e1, e2, e3⟩ := hF.own e he
    exact ⟨b, o, a, l, x, y, z, p, q, e1, At.wy e2 hr hf hx (by decide) (by decide) (by decide), e3⟩
  · obtain ⟨b, o, a, l, q, e1, e2, e3⟩ := h.arr e he
    exact ⟨b, o, a, l, q, e1, At.wy e2 hr hf hx (by decide) (by decide) (by decide), e3⟩
/-- A variable is given a value; return says one. -/
theorem FmW.setVar (h : FmW rb fb vars value w) {k : Nat} (hk : k < 12) (v : Int) : FmW rb fb (upd vars k v) value (w.setCell ⟨fb, k + 1, none⟩ (.int .i64 v)) := by
  obtain ⟨cs, hc, h1⟩ := h
  refine ⟨_, heap_set (o := k + 1) _ hc, at_ne (by omega) h1.run, fun i hi => ?_, at_ne (by omega) h1.value⟩
  by_cases e : i = k
  · subst e
    rw [at_eq (h1.vars i hi), show upd vars i v i = v from if_pos rfl]
  · rw [at_ne (by omega) (h1.vars i hi), show upd vars k v i = vars i from if_neg e]
theorem FmW.setValue (h : FmW rb fb vars value w) (v : Int) : FmW rb fb vars v (w.setCell ⟨fb, 13, none⟩ (.int .i64 v)) := by
  obtain ⟨cs, hc, h1⟩ := h
  exact ⟨_, heap_set (o := 13) _ hc, at_ne (by omega) h1.run, fun i hi => at_ne (by omega) (h1.vars i hi), at_eq h1.value⟩
end Go.Proofs.YtikffmloeifkpaaGreatDoor

/- Package walk: what a statement keeps of a run, plainly. -/
namespace Go.Proofs.YtikffmloeifkpaaGreatDoor
open Go.RowKit Go.Lib Go.Deep Go.ChangeMaps Go.MapKept
variable {lens : Nat → Int} {C : Cl}

/-- As Mn, but one may be told more than was paid: a statement's fuel is burnt ahead of it. -/
structure Mo (r r' : Rn) : Prop where
  fuel : r'.fuel ≤ r.fuel
  calls : r'.calls = r.calls
  outs : r'.outs.length + r'.fuel ≤ r.outs.length + r.fuel + 1
theorem Mn.o {r r' : Rn} (h : Mn r r') : Mo r r' := ⟨h.fuel, h.calls, by have := h.outs; omega⟩
theorem Mn.and {a b c : Rn} (h : Mn a b) (k : Mo b c) : Mo a c := ⟨Nat.le_trans k.fuel h.fuel, k.calls.trans h.calls, by have := h.outs; have := k.outs; omega⟩
/-- Burnt, and then a statement. -/
theorem Mo.burnt {a c : Rn} (hb : a.burns = true) (k : Mo a.burn c) : Mn a c := by
  unfold Rn.burns at hb
  simp only [Bool.and_eq_true, decide_eq_true_eq] at hb
  have e : a.burn = { a with fuel := a.fuel - 1 } := by unfold Rn.burn; rw [if_neg hb.1, if_pos hb.2]
  have h1 := k.fuel
  have h2 := k.calls
  have h3 := k.outs
  rw [e] at h1 h2 h3
  dsimp only at h1 h2 h3
  exact ⟨by omega, h2, by omega⟩
theorem out_mo (r : Rn) (v : Int) : Mo r (r.out v) := by
  unfold Rn.out
  split
  · exact ⟨Nat.le_refl _, rfl, by simp only [List.length_append, List.length_cons, List.length_nil]; omega⟩
  · exact (Mn.refl _).o
theorem loop_mn {c : Fm → Bool × Rn} {f : Fm → Fm} (hc : ∀ m, Mn m.run (c m).2) (hf : ∀ m, Mn m.run (f m).run) : ∀ (n : Nat) (m : Fm), Mn m.run (loopW c f n m).run := by
  intro n
  induction n with
  | zero => intro m; exact Mn.refl _
  | succ n ih =>
    intro m
    have h1 := Mn.burn m.run
    have h2 := hc { m with run := m.run.burn }
    have h3 := hf { m with run := (c { m with run := m.run.burn }).2 }
    have h4 := ih (f { m with run := (c { m with run := m.run.burn }).2 })
    unfold loopW
    split
    · split
      · split
        · exact ((h1.trans h2).trans h3).trans h4
        · exact (h1.trans h2).trans h3
      · exact h1.trans h2
    · exact h1
theorem stW_mn (hC : COk C) : ∀ (n : Nat) (t : Tr), szT t ≤ n → (Ws 2 t → ∀ m, Mo m.run (stW lens C t m).run) ∧ (Ws 4 t ∨ Ws 14 t → ∀ m, Mn m.run (stW lens C t m).run) := by
  intro n
  induction n with
  | zero => intro t h; cases t <;> simp [szT] at h
  | succ n ih =>
    intro t hsz
    cases t with
    | nil => exact ⟨fun h => absurd h (by unfold Ws nilOk; omega), fun _ m => Mn.refl _⟩
    | node b o a l q =>
      have hl : szT l ≤ n ∧ szT q ≤ n := by simp only [szT] at hsz; omega
      refine ⟨fun hw m => ?_, fun hw m => ?_⟩
      · obtain ⟨t1, t2⟩ := stmt_tag hw
        obtain ⟨_, x, y, hsig, hwl, hwq⟩ := hw.parts
        have e1 := exW_mn (lens := lens) (vars := m.vars) hC l m.run
        have e2 := exW_mn (lens := lens) (vars := m.vars) hC q (exW lens C m.vars l m.run).2
        have c1 := cdW_mn (lens := lens) (vars := m.vars) hC l m.run
        unfold stW
        rw [if_neg (by omega), if_neg (by omega)]
        split
        · exact e1.o
        split
        · split
          · have := (e1.trans e2).o
            exact ⟨this.fuel, this.calls, this.outs⟩
          · exact ((e1.trans e2).trans (Mn.trap _ _)).o
        split
        · rename_i k11
          rw [k11] at hsig
          cases hsig
          cases q with
          | nil => exact (Mn.refl _).o
          | node x y z p s =>
            obtain ⟨_, sp, sq, hs2, hwp, hws⟩ := hwq.parts
            have hz : z.tag = 18 := by
              by_cases h : z.tag = 18
              · exact h
              · exfalso; simp [sig, h] at hs2
            rw [hz] at hs2
            cases hs2
            have hs : szT p ≤ n ∧ szT s ≤ n := by have := hl.2; simp only [szT] at this; omega
            show Mo m.run (if _ then _ else _ : Fm).run
            split
            · exact (c1.trans ((ih p hs.1).2 (.inl hwp) { m with run := (cdW lens C m.vars l m.run).2 })).o
            · exact (c1.trans ((ih s hs.2).2 (.inl hws) { m with run := (cdW lens C m.vars l m.run).2 })).o
        split
        · rename_i k12
          rw [k12] at hsig
          cases hsig
          exact (loop_mn (fun m => cdW_mn hC l m.run) (fun m => (ih q hl.2).2 (.inl hwq) m) _ m).o
        split
        · exact e1.o
        split
        · exact e1.and (out_mo _ _)
        · exact (Mn.refl _).o
      · rcases hw with hw | hw
        · obtain ⟨b2, o2, a2, l2, e, h20, hw2⟩ := (hw.lst (.inr (.inl rfl))).resolve_left (by intro h; cases h)
          simp only [BT.node.injEq] at e
          obtain ⟨rfl, rfl, rfl, rfl, rfl⟩ := e
          unfold stW
          rw [if_pos (.inl h20)]
          exact (ih l hl.1).2 (.inr hw2) m
        · obtain ⟨h15, hwe, hwr⟩ := ws_rest (.inr (.inl rfl)) hw
          have h1 := (ih l hl.1).1 hwe { m with run := m.run.burn }
          have h2 := (ih q hl.2).2 (.inr hwr) (stW lens C l { m with run := m.run.burn })
          unfold stW
          rw [if_neg (by omega), if_pos h15]
          split
          · rename_i hb
            split
            · exact (Mo.burnt hb h1).trans h2
            · exact Mo.burnt hb h1
          · exact Mn.burn _
theorem enW_mn {B : Tr → Fm → Fm} {e : Tr} (hB : ∀ m, Mn m.run (B (bodyOf e) m).run) (vars : Nat → Int) (r : Rn) : Mn r (enW B e vars r).2 := by
  have h0 : Mn r (if r.calls = 60 then r.stop 4 else r) := by
    split
    · exact Mn.stop _ _
    · exact Mn.refl _
  unfold enW
  dsimp only
  generalize (if r.calls = 60 then r.stop 4 else r) = r0 at h0 ⊢
  have h1 : ({ r0 with calls := r.calls + 1 } : Rn).burn.calls = r.calls + 1 := (Mn.burn _).calls
  have hb := Mn.burn ({ r0 with calls := r.calls + 1 } : Rn)
  split
  · have h2 := hB ⟨true, vars, 0, ({ r0 with calls := r.calls + 1 } : Rn).burn⟩
    have h3 := hb.trans h2
    have g1 := h3.fuel
    have g2 := h3.calls
    have g3 := h3.outs
    have g4 := h0.fuel
    have g5 := h0.outs
    dsimp only at g1 g2 g3 ⊢
    exact ⟨by show _ ≤ r.fuel; exact Nat.le_trans g1 g4, by show _ - 1 = r.calls; omega, by show _ + _ ≤ r.outs.length + r.fuel; exact Nat.le_trans g3 g5⟩
  · have g1 := hb.fuel
    have g3 := hb.outs
    have g4 := h0.fuel
    have g5 := h0.outs
    dsimp only at g1 g3 ⊢
    exact ⟨by show _ ≤ r.fuel; exact Nat.le_trans g1 g4, by show _ - 1 = r.calls; omega, by show _ + _ ≤ r.outs.length + r.fuel; exact Nat.le_trans g3 g5⟩
theorem clW_ok {fl : List Tr} (hfl : ∀ e ∈ fl, Ws 4 (bodyOf e)) : ∀ d, COk (clW lens fl d) := by
  have body : ∀ k : Int, Ws 4 (bodyOf (fl.getD k.toNat .nil)) := by
    intro k
    rw [List.getD_eq_getElem?_getD]
    cases h : fl[k.toNat]? with
    | none => show nilOk 4; unfold nilOk; omega
    | some e => exact hfl e (List.mem_of_getElem? h)
  have tr : ∀ (c : Bool) (r : Rn) (s : Int), Mn r (if c then r else r.trap s) := by
    intro c r s
    cases c
    · exact Mn.trap _ _
    · exact Mn.refl _
  intro d
  induction d with
  | zero => intro k l s r; exact (tr _ r s).trans (enW_mn (fun m => Mn.refl _) _ _)
  | succ d ih => intro k l s r; exact (tr _ r s).trans (enW_mn (fun m => (stW_mn ih _ _ (Nat.le_refl _)).2 (.inl (body k)) m) _ _)
end Go.Proofs.YtikffmloeifkpaaGreatDoor

/- Package walk: enter. -/
namespace Go.Proofs.YtikffmloeifkpaaGreatDoor
open Go.RowKit Go.Lib Go.Deep Go.ChangeMaps Go.MapKept
variable {C : Cl} {vars : Nat → Int} {B pb rb fb d : Nat} {r : Rn} {w w' u : World} {value : Int} {al fl : List Tr}

/-- What is asked of a statement, of a block. -/
def PostSt (B pb rb fb : Nat) (m : Fm) (w : World) : Ending → World → Prop := fun e w' => e = .returned (.bool m.on) ∧ RnW B pb rb m.run w' ∧ FmW rb fb m.vars m.value w' ∧ Wy B rb fb w w'
def GSt (f B pb d : Nat) (C : Cl) (al fl : List Tr) (val : Tr → Value) (t : Tr) : Prop :=
  ∀ rb fb vars value r w, XW B pb rb fb d al fl vars value r w → IsT w t → Calls Tryz.prog f #[.pointer (some ⟨fb, 0, none⟩), val t] w (PostSt B pb rb fb (stW (lensOf al) C t ⟨true, vars, value, r⟩) w)
theorem RnW.calls1 (h : RnW B pb rb r w) {n : Nat} (hn : n ≤ 61) : RnW B pb rb { r with calls := n } (w.setCell ⟨rb, 386, none⟩ (.int .i64 n)) := h.put ⟨h.few.1, hn⟩ rfl (fun _ _ hc => hc.setCalls n)

set_option maxRecDepth 100000 in
set_option maxHeartbeats 8000000 in
/-- A function that is entered where it does not run: it is over, or there is no fuel. -/
theorem enter_no {cb : Nat} (r0 : Rn) (hr0 : r0 = (if r.calls = 60 then r.stop 4 else r)) (hb : ({ r0 with calls := r.calls + 1 } : Rn).burns = false) (w : World) (h : XW B pb rb fb d al fl vars 0 r w) :
    Calls Tryz.prog 79 #[.pointer (some ⟨fb, 0, none⟩), .pointer (some ⟨cb, 0, none⟩)] w fun e w' => e = .returned (.int .i64 0) ∧ RnW B pb rb { ({ r0 with calls := r.calls + 1 } : Rn).burn with calls := ({ r0 with calls := r.calls + 1 } : Rn).burn.calls - 1 } w' ∧ Wx B rb w w' := by
  have hcl := h.bd.calls
  obtain ⟨f0, _, _, _⟩ := h.fm.cells
  obtain ⟨_, _, c6, _, _, _⟩ := h.rn.cells
  have hbc : ({ r0 with calls := r.calls + 1 } : Rn).burn.calls = r.calls + 1 := (Mn.burn _).calls
  have HFM : Hid (∀ w2, Wx B rb w w2 → w2.cell? ⟨fb, 0, none⟩ = some (.pointer (some ⟨rb, 0, none⟩)) ∧ w2.cell? ⟨fb, 13, none⟩ = some (.int .i64 0)) := fun w2 hx => by
    have := (h.fm.wx hx (h.fm.ne h.rn)).cells
    exact ⟨this.1, this.2.1⟩
  have HRN : Hid (RnW B pb rb r w) := h.rn
  -- behind the count
  have REST : Hid (∀ w2, RnW B pb rb r0 w2 → RnW B pb rb { r0 with calls := r.calls + 1 } (w2.setCell ⟨rb, 386, none⟩ (.int .i64 ((r.calls : Int) + 1)))) := fun w2 h2 => by
    rw [show ((r.calls : Int) + 1) = ((r.calls + 1 : Nat) : Int) by omega]
    exact h2.calls1 (by omega)
  have LAST : Hid (∀ w2, RnW B pb rb ({ r0 with calls := r.calls + 1 } : Rn).burn w2 → RnW B pb rb { ({ r0 with calls := r.calls + 1 } : Rn).burn with calls := ({ r0 with calls := r.calls + 1 } : Rn).burn.calls - 1 } (w2.setCell ⟨rb, 386, none⟩ (.int .i64 (r.calls : Int)))) := fun w2 h2 => by
    rw [hbc, show r.calls + 1 - 1 = r.calls by omega]
    exact h2.calls1 (by omega)
  have hcI : (r.calls : Int) ≤ 60 ∧ 0 ≤ (r.calls : Int) := by omega
  have HB : Hid _ := hb
  have HBC : Hid _ := hbc
  clear hb hbc h
  by_cases h60 : r.calls = 60
  · have t60 : ((r.calls : Int) == 60) = true := by simp [h60]
    rw [if_pos h60] at hr0
    have HC0 : Hid (r0.calls = r.calls) := by rw [Hid, hr0]; exact (Mn.stop _ _).calls
    have HS : Hid (Calls Tryz.prog 78 #[.pointer (some ⟨rb, 0, none⟩), .int .i64 4] w fun e w' => e = .returned (.tuple #[]) ∧ RnW B pb rb r0 w' ∧ Wx B rb w w') := by rw [Hid, hr0]; exact stop_any 4 w HRN.out
    clear hr0 h60
    go_enter Tryz.func79, Tryz.ntmps79
    go_wp2_with fail
    refine HS.out.mono ?_
    rintro e W2 ⟨rfl, h2, x2⟩
    obtain ⟨f2, _⟩ := HFM.out W2 x2
    obtain ⟨_, _, k6, _, _, z2⟩ := h2.cells
    rw [HC0.out] at k6
    have h3 := REST.out W2 h2
    have x3 := x2.set 386 (.int .i64 ((r.calls : Int) + 1))
    obtain ⟨f3, _⟩ := HFM.out _ x3
    have hbu := burn_any _ h3
    rw [HB.out] at hbu
    have HX3 : Hid _ := x3
    clear h2 x2 h3 x3 f0 c6
    go_wp2_with fail
    refine hbu.mono ?_
    rintro e W4 ⟨rfl, h4, x4⟩
    have x4' := HX3.out.trans x4
    obtain ⟨f4, v4⟩ := HFM.out W4 x4'
    obtain ⟨_, _, k7, _, _, z4⟩ := h4.cells
    rw [HBC.out] at k7
    have k7 : W4.cell? ⟨rb, 386, none⟩ = some (.int .i64 ((r.calls : Int) + 1)) := by rw [k7]; simp
    have h5 := LAST.out W4 h4
    have x5 := x4'.set 386 (.int .i64 (r.calls : Int))
    obtain ⟨f5, v5⟩ := HFM.out _ x5
    have HH5 : Hid _ := h5
    have HX5 : Hid _ := x5
    clear h4 x4 x4' h5 x5
    go_wp2
    go_ret
    exact ⟨rfl, HH5.out, HX5.out⟩
  · have t60 : ((r.calls : Int) == 60) = false := by simp; omega
    rw [if_neg h60] at hr0
    subst hr0
    clear h60
    have h3 := REST.out w HRN.out
    have x3 := (Wx.refl B rb w).set 386 (.int .i64 ((r0.calls : Int) + 1))
    obtain ⟨f3, _⟩ := HFM.out _ x3
    obtain ⟨_, _, _, _, _, z1⟩ := HRN.out.cells
    have hbu := burn_any _ h3
    rw [HB.out] at hbu
    have HX3 : Hid _ := x3
    clear h3 x3
    go_enter Tryz.func79, Tryz.ntmps79
    go_wp2_with fail
    refine hbu.mono ?_
    rintro e W4 ⟨rfl, h4, x4⟩
    have x4' := HX3.out.trans x4
    obtain ⟨f4, v4⟩ := HFM.out W4 x4'
    obtain ⟨_, _, k7, _, _, z4⟩ := h4.cells
    rw [HBC.out] at k7
    have k7 : W4.cell? ⟨rb, 386, none⟩ = some (.int .i64 ((r0.calls : Int) + 1)) := by rw [k7]; simp
    have h5 := LAST.out W4 h4
    have x5 := x4'.set 386 (.int .i64 (r0.calls : Int))
    obtain ⟨f5, v5⟩ := HFM.out _ x5
    have HH5 : Hid _ := h5
    have HX5 : Hid _ := x5
    clear h4 x4 x4' h5 x5
    go_wp2
    go_ret
    exact ⟨rfl, HH5.out, HX5.out⟩
end Go.Proofs.YtikffmloeifkpaaGreatDoor

/- Package walk: enter, where the body runs. -/
namespace Go.Proofs.YtikffmloeifkpaaGreatDoor
open Go.RowKit Go.Lib Go.Deep Go.ChangeMaps Go.MapKept
variable {C : Cl} {vars : Nat → Int} {B pb rb fb d : Nat} {r : Rn} {w w' u : World} {value : Int} {al fl : List Tr}

set_option maxRecDepth 100000 in
set_option maxHeartbeats 8000000 in
theorem enter_yes {cb : Nat} {q : Tr} (h60 : r.calls ≠ 60) (hb : ({ r with calls := r.calls + 1 } : Rn).burns = true) (hwq : Ws 4 q) (hB : GSt 132 B pb d C al fl valT q) (m : Fm) (hm : m = stW (lensOf al) C q ⟨true, vars, 0, ({ r with calls := r.calls + 1 } : Rn).burn⟩)
    (hmn : Mn ({ r with calls := r.calls + 1 } : Rn).burn m.run) (w : World) (h : XW B pb rb fb (d + 1) al fl vars 0 r w) (hi : IsT w q) (hF : At w cb 105 (fun cs => cs[5]? = some (valT q))) :
    Calls Tryz.prog 79 #[.pointer (some ⟨fb, 0, none⟩), .pointer (some ⟨cb, 0, none⟩)] w fun e w' => e = .returned (.int .i64 m.value) ∧ RnW B pb rb { m.run with calls := m.run.calls - 1 } w' ∧ Wy B rb fb w w' := by
  have hcl := h.bd.calls
  obtain ⟨f0, _, _, _⟩ := h.fm.cells
  obtain ⟨_, _, c6, _, _, z1⟩ := h.rn.cells
  obtain ⟨ao, cp, hvl⟩ := hwq.lstval (.inr (.inl rfl))
  have hmc : m.run.calls = r.calls + 1 := hmn.calls.trans (Mn.burn _).calls
  have t60 : ((r.calls : Int) == 60) = false := by simp; omega
  have hcI : (r.calls : Int) ≤ 60 ∧ 0 ≤ (r.calls : Int) := by omega
  have h3 : RnW B pb rb { r with calls := r.calls + 1 } (w.setCell ⟨rb, 386, none⟩ (.int .i64 ((r.calls : Int) + 1))) := by
    rw [show ((r.calls : Int) + 1) = ((r.calls + 1 : Nat) : Int) by omega]
    exact h.rn.calls1 (by omega)
  have x3 := (Wx.refl B rb w).set 386 (.int .i64 ((r.calls : Int) + 1))
  have fm3 := h.fm.wx x3 (h.fm.ne h.rn)
  have f3 := fm3.cells.1
  have hbu := burn_any _ h3
  rw [hb] at hbu
  have HB2 : Hid (∀ W4, RnW B pb rb ({ r with calls := r.calls + 1 } : Rn).burn W4 → Wx B rb w W4 → Calls Tryz.prog 132 #[.pointer (some ⟨fb, 0, none⟩), .slice ao (lenV q) cp] W4 (PostSt B pb rb fb m W4) ∧ W4.cell? ⟨cb, 5, none⟩ = some (.slice ao (lenV q) cp) ∧ W4.cell? ⟨fb, 0, none⟩ = some (.pointer (some ⟨rb, 0, none⟩))) := fun W4 h4 x4 => by
    have fm4 := h.fm.wx x4 (h.fm.ne h.rn)
    have hbn := hb
    unfold Rn.burns at hbn
    simp only [Bool.and_eq_true, decide_eq_true_eq] at hbn
    have e : ({ r with calls := r.calls + 1 } : Rn).burn = { r with calls := r.calls + 1, fuel := r.fuel - 1 } := by unfold Rn.burn; rw [if_neg hbn.1, if_pos hbn.2]
    have hbd : Bd d ({ r with calls := r.calls + 1 } : Rn).burn := by
      rw [e]
      have g1 := h.bd.outs
      have g2 := h.bd.fuel
      exact ⟨by show r.calls + 1 ≤ 60; omega, by show r.outs.length + (r.fuel - 1) ≤ 20000; omega, by show r.fuel - 1 ≤ d; omega⟩
    have := hB rb fb vars 0 _ W4 ⟨h4, fm4, h.pg.wx h.rn x4, hbd⟩ (IsT.wx h.rn x4 hi)
    rw [← hm, hvl] at this
    obtain ⟨cs, hc, h5⟩ := At.wx hF h.rn x4 (by decide) (by decide)
    exact ⟨this, by rw [cell_of_row _ _ _ _ _ _ hc, ← hvl]; exact h5, fm4.cells.1⟩
  have LAST : Hid (∀ w2, RnW B pb rb m.run w2 → RnW B pb rb { m.run with calls := m.run.calls - 1 } (w2.setCell ⟨rb, 386, none⟩ (.int .i64 (r.calls : Int)))) := fun w2 h2 => by
    rw [hmc, show r.calls + 1 - 1 = r.calls by omega]
    exact h2.calls1 (by omega)
  have HX3 : Hid _ := x3
  have HMC : Hid _ := hmc
  clear h h3 x3 fm3 hB hm hmn hi hF hb hmc h60 hvl
  go_enter Tryz.func79, Tryz.ntmps79
  go_wp2_with fail
  refine hbu.mono ?_
  rintro e W4 ⟨rfl, h4, x4⟩
  have x4' := HX3.out.trans x4
  obtain ⟨hblk, c5, f4⟩ := HB2.out W4 h4 x4'
  have HX4 : Hid _ := x4'
  clear h4 x4 x4' hbu
  go_wp2_with fail
  refine hblk.mono ?_
  rintro e W5 ⟨rfl, h5, fm5, y5⟩
  obtain ⟨_, _, k7, _, _, z4⟩ := h5.cells
  rw [HMC.out] at k7
  have k7 : W5.cell? ⟨rb, 386, none⟩ = some (.int .i64 ((r.calls : Int) + 1)) := by rw [k7]; simp
  have h6 := LAST.out W5 h5
  have x6 := (Wx.refl B rb W5).set 386 (.int .i64 (r.calls : Int))
  obtain ⟨f5, _, _, _⟩ := fm5.cells
  obtain ⟨f6, v6, _, _⟩ := (fm5.wx x6 (fm5.ne h5)).cells
  have HH6 : Hid _ := h6
  have HY : Hid (Wy B rb fb w (W5.setCell ⟨rb, 386, none⟩ (.int .i64 (r.calls : Int)))) := (HX4.out.y.trans y5).trans x6.y
  clear h5 y5 h6 x6 fm5
  go_wp2
  go_ret
  exact ⟨rfl, HH6.out, HY.out⟩
end Go.Proofs.YtikffmloeifkpaaGreatDoor

/- Package walk: a while. -/
namespace Go.Proofs.YtikffmloeifkpaaGreatDoor
open Go.RowKit Go.Lib Go.Deep Go.ChangeMaps Go.MapKept
variable {C : Cl} {vars : Nat → Int} {B pb rb fb d : Nat} {r : Rn} {w w' u : World} {value : Int} {al fl : List Tr}

theorem XW.wy (h : XW B pb rb fb d al fl vars value r w) {r' : Rn} {vars' : Nat → Int} {value' : Int} (hr : RnW B pb rb r' w') (hf : FmW rb fb vars' value' w') (hx : Wy B rb fb w w') (hm : Mn r r') : XW B pb rb fb d al fl vars' value' r' w' :=
  ⟨hr, hf, h.pg.wy h.rn h.fm hx, h.bd.mn hm⟩
theorem burn_fuel (hb : r.burns = true) : r.burn.fuel < r.fuel := by
  unfold Rn.burns at hb
  simp only [Bool.and_eq_true, decide_eq_true_eq] at hb
  have e : r.burn = { r with fuel := r.fuel - 1 } := by unfold Rn.burn; rw [if_neg hb.1, if_pos hb.2]
  rw [e]
  show r.fuel - 1 < r.fuel
  omega

set_option maxRecDepth 100000 in
set_option maxHeartbeats 8000000 in
theorem while_x {b o : Nat} {a : Nd} {l q : Tr} (ht : a.tag = 12) (hC : COk C) (hl : Ws 1 l ∧ GB 257 B pb d C al fl valT l) (hq : Ws 4 q ∧ GSt 132 B pb d C al fl valT q) :
    GSt 258 B pb d C al fl ptrT (.node b o a l q) := by
  intro rb fb vars value r w h hi
  obtain ⟨hwl, hgl⟩ := hl
  obtain ⟨hwq, hgq⟩ := hq
  obtain ⟨u, p, hvl⟩ := hwl.val (.inr (.inl rfl))
  obtain ⟨ao, cp, hvq⟩ := hwq.lstval (.inr (.inl rfl))
  have own2 : ∀ W, Own W b a l q → W.cell? ⟨b, 0, none⟩ = some (.iface u (.pointer (some p))) ∧ W.cell? ⟨b, 1, none⟩ = some (.slice ao (lenV q) cp) := fun W ho => by
    obtain ⟨cs, hc, h2, h3⟩ := own_tag ho (n := 12) ht
    exact ⟨by rw [cell_of_row _ _ _ _ _ _ hc, ← hvl]; exact h2, by rw [cell_of_row _ _ _ _ _ _ hc, ← hvq]; exact h3⟩
  have hX : stW (lensOf al) C (.node b o a l q) ⟨true, vars, value, r⟩ = loopW (fun m => cdW (lensOf al) C m.vars l m.run) (stW (lensOf al) C q) (r.fuel + 1) ⟨true, vars, value, r⟩ := by
    conv => lhs; unfold stW
    rw [if_neg (by omega), if_neg (by omega), if_neg (by omega), if_neg (by omega), if_neg (by omega), if_pos ht]
  rw [hX]
  have HCN : Hid (∀ vars' value' r' W, XW B pb rb fb d al fl vars' value' r' W → IsT W (.node b o a l q) → Calls Tryz.prog 257 #[.pointer (some ⟨fb, 0, none⟩), .iface u (.pointer (some p))] W (PostB B pb rb (cdW (lensOf al) C vars' l r').1 (cdW (lensOf al) C vars' l r').2 W)) := fun vars' value' r' W h2 i2 => by
    have := hgl rb fb vars' value' r' W h2 i2.1
    rw [hvl] at this
    exact this
  have HBL : Hid (∀ vars' value' r' W, XW B pb rb fb d al fl vars' value' r' W → IsT W (.node b o a l q) → Calls Tryz.prog 132 #[.pointer (some ⟨fb, 0, none⟩), .slice ao (lenV q) cp] W (PostSt B pb rb fb (stW (lensOf al) C q ⟨true, vars', value', r'⟩) W)) := fun vars' value' r' W h2 i2 => by
    have := hgq rb fb vars' value' r' W h2 i2.2.1
    rw [hvq] at this
    exact this
  have HCM : Hid (∀ vars' r', Mn r' (cdW (lensOf al) C vars' l r').2) := fun vars' r' => cdW_mn hC l r'
  have HBM : Hid (∀ m, Mn m.run (stW (lensOf al) C q m).run) := fun m => (stW_mn hC _ q (Nat.le_refl _)).2 (.inl hwq) m
  have HO : Hid _ := own2
  obtain ⟨F, hF⟩ : ∃ F, F = loopW (fun m => cdW (lensOf al) C m.vars l m.run) (stW (lensOf al) C q) (r.fuel + 1) ⟨true, vars, value, r⟩ := ⟨_, rfl⟩
  rw [← hF]
  have L0 : ∃ vars' value' r', F = loopW (fun m => cdW (lensOf al) C m.vars l m.run) (stW (lensOf al) C q) (r.fuel + 1) ⟨true, vars', value', r'⟩ ∧ r'.fuel < r.fuel + 1 ∧ XW B pb rb fb d al fl vars' value' r' w ∧ IsT w (.node b o a l q) ∧ Wy B rb fb w w :=
    ⟨vars, value, r, hF, by omega, h, hi, Wy.refl _ _ _ _⟩
  show Calls Tryz.prog 258 #[.pointer (some ⟨fb, 0, none⟩), .pointer (some ⟨b, 0, none⟩)] w _
  generalize cdW (lensOf al) C = cF at *
  generalize stW (lensOf al) C = sF at *
  clear hX hF hgl hgq h hi own2 hwl hwq hvl hvq ht hC
  go_enter Tryz.func258, Tryz.ntmps258
  go_wp2_with fail
  go_loopg [] (r.fuel + 1) (fun n wr => ∃ vars' value' r', F = loopW (fun m => cF m.vars l m.run) (sF q) n ⟨true, vars', value', r'⟩ ∧ r'.fuel < n ∧ XW B pb rb fb d al fl vars' value' r' wr ∧ IsT wr (.node b o a l q) ∧ Wy B rb fb w wr)
  case atStart => exact L0
  case round =>
    clear L0
    obtain ⟨vars', value', r', hF, hfu, X, hiT, hy⟩ := hrel
    obtain ⟨m, rfl⟩ : ∃ m, gk = m + 1 := ⟨gk - 1, by omega⟩
    have f0 := X.fm.cells.1
    have hbu := burn_any wr X.rn
    have hF : F = if r'.burns then
      (if (cF vars' l r'.burn).1 then
        (if (sF q ⟨true, vars', value', (cF vars' l r'.burn).2⟩).on then loopW (fun m => cF m.vars l m.run) (sF q) m (sF q ⟨true, vars', value', (cF vars' l r'.burn).2⟩) else sF q ⟨true, vars', value', (cF vars' l r'.burn).2⟩)
       else ⟨true, vars', value', (cF vars' l r'.burn).2⟩)
      else ⟨true, vars', value', r'.burn⟩ := hF
    have HX : Hid _ := X
    have HIT : Hid _ := hiT
    have HY : Hid _ := hy
    cases hb : r'.burns
    · rw [if_neg (by rw [hb]; decide)] at hF
      rw [hb] at hbu
      have HF : Hid _ := hF
      clear hF X hiT hy hb
      go_wp2_with fail
      refine hbu.mono ?_
      rintro e W2 ⟨rfl, h2, x2⟩
      have fin : Hid (PostSt B pb rb fb F w (.returned (.bool true)) W2) := by
        rw [Hid, HF.out]
        exact ⟨rfl, h2, HX.out.fm.wx x2 (HX.out.fm.ne HX.out.rn), HY.out.trans x2.y⟩
      clear h2 x2
      go_wp2
      go_ret
      exact fin.out
    · rw [if_pos hb] at hF
      rw [hb] at hbu
      have HB : Hid (r'.burn.fuel < r'.fuel) := burn_fuel hb
      have hbm := Mn.burn r'
      have hcm := HCM.out vars' r'.burn
      have hsm := HBM.out ⟨true, vars', value', (cF vars' l r'.burn).2⟩
      have HFU : Hid (r'.fuel < m + 1) := hfu
      cases hc : (cF vars' l r'.burn).1
      · rw [if_neg (by rw [hc]; decide)] at hF
        have HF : Hid _ := hF
        have HHC : Hid _ := hc
        clear hF X hiT hy hb hc hfu
        go_wp2_with fail
        refine hbu.mono ?_
        rintro e W2 ⟨rfl, h2, x2⟩
        have X2 := HX.out.wx h2 x2 hbm
        have i2 : IsT W2 (.node b o a l q) := IsT.wx HX.out.rn x2 HIT.out
        obtain ⟨n0, n1⟩ := HO.out W2 i2.2.2
        have hcall := HCN.out vars' value' _ W2 X2 i2
        rw [HHC.out] at hcall
        have HX2 : Hid _ := X2
        have HY2 : Hid _ := HY.out.trans x2.y
        clear h2 x2 X2 i2 n1 hbu
        go_wp2_with fail
        refine hcall.mono ?_
        rintro e W3 ⟨rfl, h3, x3⟩
        have fin : Hid (PostSt B pb rb fb F w (.returned (.bool true)) W3) := by
          rw [Hid, HF.out]
          exact ⟨rfl, h3, HX2.out.fm.wx x3 (HX2.out.fm.ne HX2.out.rn), HY2.out.trans x3.y⟩
        clear h3 x3
        go_wp2
        go_ret
        exact fin.out
      · rw [if_pos hc] at hF
        generalize hM : sF q ⟨true, vars', value', (cF vars' l r'.burn).2⟩ = M at *
        obtain ⟨on, mv, mx, mr⟩ := M
        dsimp only at hF hsm
        have HHC : Hid _ := hc
        have HM : Hid _ := hM
        cases on
        · rw [if_neg (by decide)] at hF
          have HF : Hid _ := hF
          clear hF X hiT hy hb hc hfu hM
          go_wp2_with fail
          refine hbu.mono ?_
          rintro e W2 ⟨rfl, h2, x2⟩
          have X2 := HX.out.wx h2 x2 hbm
          have i2 : IsT W2 (.node b o a l q) := IsT.wx HX.out.rn x2 HIT.out
          obtain ⟨n0, n1⟩ := HO.out W2 i2.2.2
          have hcall := HCN.out vars' value' _ W2 X2 i2
          rw [HHC.out] at hcall
          have HX2 : Hid _ := X2
          have HI2 : Hid _ := i2
          have HY2 : Hid _ := HY.out.trans x2.y
          clear h2 x2 X2 i2 n1 hbu
          go_wp2_with fail
          refine hcall.mono ?_
          rintro e W3 ⟨rfl, h3, x3⟩
          have X3 := HX2.out.wx h3 x3 hcm
          have i3 : IsT W3 (.node b o a l q) := IsT.wx HX2.out.rn x3 HI2.out
          obtain ⟨k0, k1⟩ := HO.out W3 i3.2.2
          have hcall2 := HBL.out vars' value' _ W3 X3 i3
          rw [HM.out] at hcall2
          have HY3 : Hid _ := HY2.out.trans x3.y
          clear h3 x3 X3 i3 k0 n0 hcall
          go_wp2_with fail
          refine hcall2.mono ?_
          rintro e W4 ⟨rfl, h4, f4, y4⟩
          have fin : Hid (PostSt B pb rb fb F w (.returned (.bool false)) W4) := by
            rw [Hid, HF.out]
            exact ⟨rfl, h4, f4, HY3.out.trans y4⟩
          clear h4 f4 y4
          go_wp2
          go_ret
          exact fin.out
        · rw [if_pos rfl] at hF
          have HF : Hid _ := hF
          clear hF X hiT hy hb hc hfu hM
          go_wp2_with fail
          refine hbu.mono ?_
          rintro e W2 ⟨rfl, h2, x2⟩
          have X2 := HX.out.wx h2 x2 hbm
          have i2 : IsT W2 (.node b o a l q) := IsT.wx HX.out.rn x2 HIT.out
          obtain ⟨n0, n1⟩ := HO.out W2 i2.2.2
          have hcall := HCN.out vars' value' _ W2 X2 i2
          rw [HHC.out] at hcall
          have HX2 : Hid _ := X2
          have HI2 : Hid _ := i2
          have HY2 : Hid _ := HY.out.trans x2.y
          clear h2 x2 X2 i2 n1 hbu
          go_wp2_with fail
          refine hcall.mono ?_
          rintro e W3 ⟨rfl, h3, x3⟩
          have X3 := HX2.out.wx h3 x3 hcm
          have i3 : IsT W3 (.node b o a l q) := IsT.wx HX2.out.rn x3 HI2.out
          obtain ⟨k0, k1⟩ := HO.out W3 i3.2.2
          have hcall2 := HBL.out vars' value' _ W3 X3 i3
          rw [HM.out] at hcall2
          have HX3 : Hid _ := X3
          have HI3 : Hid _ := i3
          have HY3 : Hid _ := HY2.out.trans x3.y
          clear h3 x3 X3 i3 k0 n0 hcall
          go_wp2_with fail
          refine hcall2.mono ?_
          rintro e W4 ⟨rfl, h4, f4, y4⟩
          have fin : ∃ vars' value' r', F = loopW (fun m => cF m.vars l m.run) (sF q) m ⟨true, vars', value', r'⟩ ∧ r'.fuel < m ∧ XW B pb rb fb d al fl vars' value' r' W4 ∧ IsT W4 (.node b o a l q) ∧ Wy B rb fb w W4 :=
            ⟨mv, mx, mr, HF.out, by have := HB.out; have := HFU.out; have := hcm.fuel; have := hsm.fuel; omega, HX3.out.wy h4 f4 y4 hsm, IsT.wy HX3.out.rn HX3.out.fm y4 HI3.out, HY3.out.trans y4⟩
          clear h4 f4 y4
          go_wp2
          go_roundg m
          case rel => exact fin
          case measure => omega
end Go.Proofs.YtikffmloeifkpaaGreatDoor
