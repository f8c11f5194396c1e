/- The program's contracts, part 19: each says what a function of the program does, for every argument that its premises name. -/
import Derived.Test.YtikffmloeifkpaaGreatDoorM18
/- Package sites: a statement, a block; all parts together. -/
namespace Go.Proofs.YtikffmloeifkpaaGreatDoor
open Go.RowKit Go.Lib Go.Deep Go.ChangeMaps Go.MapKept
variable {H pb nb : Nat} {it vA vF : Value} {m : Int} {fl : List Tr}

set_option maxRecDepth 100000 in
set_option maxHeartbeats 8000000 in
theorem stmt_si {b o : Nat} {a : Nd} {l r : Tr} (hw : Ws 2 (.node b o a l r)) (hH : Fresh H (.node b o a l r)) (hnd : (ps (.node b o a l r)).Nodup)
    (hE : a.tag = 9 ∨ a.tag = 10 ∨ a.tag = 13 ∨ a.tag = 14 → Ws 0 l ∧ GSi 197 H pb nb it vA vF m fl valT l) (hE2 : a.tag = 10 → Ws 0 r ∧ GSi 197 H pb nb it vA vF m fl valT r)
    (hC : a.tag = 11 ∨ a.tag = 12 → Ws 1 l ∧ GSi 199 H pb nb it vA vF m fl valT l)
    (hB : a.tag = 12 → Ws 4 r ∧ GSi 76 H pb nb it vA vF m fl valT r)
    (hI : a.tag = 11 → ∃ x y z p q, r = .node x y z p q ∧ z.tag = 18 ∧ Ws 4 p ∧ Ws 4 q ∧ GSi 76 H pb nb it vA vF m fl valT p ∧ GSi 76 H pb nb it vA vF m fl valT q) :
    GSi 129 H pb nb it vA vF m fl valT (.node b o a l r) := by
  obtain ⟨hoka, sx, sy, hsig, hwl, hwr⟩ := hw.parts
  obtain ⟨ht1, ht2⟩ := stmt_tag hw
  have uq := uq_of hnd
  have hbH : H ≤ b := hH.2.2 (by unfold placed; omega)
  intro S w h hi hS
  have hne : a.tag ≠ 20 := by omega
  have hown := hi.2.2
  have hlen := ps_len b o a l r
  have hlR := siR_len fl l S
  have hv : valT (.node b o a l r) = .iface (ityp a.tag) (.pointer (some ⟨b, 0, none⟩)) := if_neg hne
  rw [hv]
  have t1 := fun u v => ta_set u v w
  have t2 := fun u v => ta_store u v w
  have t3 := fun u v => ta_if u v w
  have t4 := fun u v => ta_while u v w
  have t5 := fun u v => ta_return u v w
  have t6 := fun u v => ta_out u v w
  have HU : Hid (Uq a l r) := uq
  by_cases k10 : a.tag = 10
  · obtain ⟨hwl0, hgl⟩ := hE (.inr (.inl k10))
    obtain ⟨hwr0, hgr⟩ := hE2 k10
    obtain ⟨u, p, hvl⟩ := hwl0.val (.inl rfl)
    obtain ⟨u2, p2, hvr⟩ := hwr0.val (.inl rfl)
    rw [if_neg (by omega), if_pos ⟨by omega, by rw [k10]; rfl⟩] at hlen
    have n1 : w.cell? ⟨b, 1, none⟩ = some (.int .i64 a.npos) := by
      obtain ⟨cs, hc, hn, _⟩ := own_tag hown (n := 10) k10
      rw [cell_of_row _ _ _ _ _ _ hc]; exact hn.2.1
    have own2 : ∀ w' a', a'.tag = 10 → Own w' b a' l r → w'.cell? ⟨b, 3, none⟩ = some (valT l) ∧ w'.cell? ⟨b, 4, none⟩ = some (valT r) := by
      intro w' a' ht' ho
      obtain ⟨cs, hc, _, h3, h4, _⟩ := own_tag ho (n := 10) ht'
      exact ⟨by rw [cell_of_row _ _ _ _ _ _ hc]; exact h3, by rw [cell_of_row _ _ _ _ _ _ hc]; exact h4⟩
    obtain ⟨eT, eR⟩ := eT_si (fl := fl) (b := b) (o := o) (l := l) (r := r) (S := S) (k := 2) (.inr ⟨k10, rfl⟩)
    rw [eT, eR]
    have HO2 : Hid _ := own2
    have HL : Hid (GSi 197 H pb nb it vA vF m fl valT l) := hgl
    have HR : Hid (GSi 197 H pb nb it vA vF m fl valT r) := hgr
    have HK : Hid (a.tag = 10) := k10
    have HI : Hid (IsT w (.node b o a l r)) := hi
    have HB : Hid (H ≤ b) := hbH
    have hl1 := siR_len fl l (S ++ [(2, a.npos)])
    rw [List.length_append] at hl1
    simp only [List.length_cons, List.length_nil] at hl1
    have HB1 : Hid (S.length + 1 + (ps l).length ≤ 1000000) := by rw [Hid]; omega
    have HB2 : Hid ((siR fl l (S ++ [(2, a.npos)])).length + (ps r).length ≤ 1000000) := by rw [Hid]; omega
    rw [show ityp a.tag = 329 by rw [k10]; rfl]
    clear hE hE2 hC hB hI hw hH hnd uq hown hv hsig hwl hwr hi k10 own2 hgl hgr eT eR hlen hlR hl1 hS hbH ht1 ht2 hne
    go_enter Tryz.func129, Tryz.ntmps129
    go_wp2_with fail
    refine (add_any 2 a.npos w h (by have := HB1.out; omega)).mono ?_
    rintro e W4 ⟨rfl, h4, x4⟩
    have o4 : Own W4 b a l r := own_fr HI.out.2.2 x4 F0.body (fun p hp ty hq => hq) (by have := HK.out; omega)
    have i4 : IsT W4 l := IsT.fr x4 (fun t p hp => absurd hp id) hwl0 HI.out.1 (fun _ _ _ h => h)
    have j4 : IsT W4 r := IsT.fr x4 (fun t p hp => absurd hp id) hwr0 HI.out.2.1 (fun _ _ _ h => h)
    obtain ⟨h5, x5, o5, ⟨q5, c5⟩, z5⟩ := site_set (o := 5) (i := (S.length : Int)) h4 o4 HB.out (.inr ⟨HK.out, rfl⟩)
    have i5 : IsT (W4.setCell ⟨b, 5, none⟩ (.int .i64 (S.length : Int))) l := IsT.fr x5 (fun t p hp => (Po.body t p hp).pos) hwl0 i4 (Po.out HU.out.own_l)
    have j5 : IsT (W4.setCell ⟨b, 5, none⟩ (.int .i64 (S.length : Int))) r := IsT.fr x5 (fun t p hp => (Po.body t p hp).pos) hwr0 j4 (Po.out HU.out.own_r)
    have n3 := (HO2.out _ { a with site := (S.length : Int) } HK.out o5).1
    have X5 : Hid (Fr H (Pt (.node b o a l r)) w (W4.setCell ⟨b, 5, none⟩ (.int .i64 (S.length : Int)))) := (x4.mono F0.to).trans ((show Fr H (Po a) W4 _ from x5).mono Po.to)
    have HO5 : Hid (Own (W4.setCell ⟨b, 5, none⟩ (.int .i64 (S.length : Int))) b { a with site := (S.length : Int) } l r) := o5
    have HJ5 : Hid (IsT (W4.setCell ⟨b, 5, none⟩ (.int .i64 (S.length : Int))) r) := j5
    have hcall := HL.out _ _ h5 i5 (by have := HB1.out; rw [List.length_append]; simp only [List.length_cons, List.length_nil]; omega)
    rw [hvl] at n3 hcall
    clear o4 o5 x4 x5 i4 j4 h4 n1 i5 j5 h5
    go_upto_region 7 with fail
    generalize W4.setCell ⟨b, 5, none⟩ (.int .i64 (S.length : Int)) = W5 at *
    go_wp2_with fail
    refine hcall.mono ?_
    rintro e W6 ⟨rfl, h6, i6, x6⟩
    have o6 := own_fr HO5.out x6 Pt.body (fun p hp ty hq => HU.out.own_l p hp hq.2) (by have := HK.out; show a.tag ≠ 20; omega)
    have j6 : IsT W6 r := IsT.fr x6 (fun t p hp => (Pt.body t p hp).pos) hwr0 HJ5.out (Pt.out HU.out.apart)
    have n4 := (HO2.out W6 { a with site := (S.length : Int) } HK.out o6).2
    have hcall2 := HR.out _ _ h6 j6 HB2.out
    rw [hvr] at n4 hcall2
    have HO6 : Hid (Own W6 b { a with site := (S.length : Int) } l r) := o6
    clear o6 j6
    go_wp2_with fail
    refine hcall2.mono ?_
    rintro e W7 ⟨rfl, h7, i7, x7⟩
    go_wp2
    go_end0
    have o7 := own_fr HO6.out x7 Pt.body (fun p hp ty hq => HU.out.own_r p hp hq.2) (by have := HK.out; show a.tag ≠ 20; omega)
    have l7 := keep_si i6 x7 hwl0 (siT_sh _ _ _) HU.out.apart_
    exact ⟨rfl, h7, ⟨l7, i7, own_sh o7 (siT_sh _ _ _) (siT_sh _ _ _)⟩, (X5.out.trans (x6.mono Pt.left)).trans (x7.mono Pt.right)⟩
  have hp : a.tag ≠ 2 ∧ a.tag ≠ 3 ∧ a.tag ≠ 6 ∧ a.tag ≠ 10 := by omega
  have hb1 : S.length + (ps l).length ≤ 1000000 := by omega
  have hb2 : (siR fl l S).length + (ps r).length ≤ 1000000 := by omega
  rw [run_si hp]
  have FIN : Hid _ := fun W2 W3 x2 i2 x3 i3 => two_si (H := H) (fl := fl) (o := o) (S := S) (W2 := W2) (W3 := W3) hwl uq hne hp hown x2 i2 x3 i3
  have RK : Hid _ := fun W2 x2 => right_kept (H := H) (W2 := W2) hwr uq hi x2 hne
  by_cases k11 : a.tag = 11
  · obtain ⟨x, y, z, p, q, rfl, hz, hwp, hwq, hgp, hgq⟩ := hI k11
    obtain ⟨hwl0, hgl⟩ := hC (.inl k11)
    obtain ⟨u, pp, hvl⟩ := hwl0.val (.inr (.inl rfl))
    obtain ⟨ao, cp, hvp⟩ := hwp.lstval (.inr (.inl rfl))
    obtain ⟨ao2, cp2, hvq⟩ := hwq.lstval (.inr (.inl rfl))
    have HP : Hid (GSi 76 H pb nb it vA vF m fl valT p) := hgp
    have HQ : Hid (GSi 76 H pb nb it vA vF m fl valT q) := hgq
    have own2 : ∀ w', Own w' b a l (.node x y z p q) → w'.cell? ⟨b, 0, none⟩ = some (valT l) ∧ w'.cell? ⟨b, 1, none⟩ = some (valT p) ∧ w'.cell? ⟨b, 2, none⟩ = some (valT q) := by
      intro w' ho
      obtain ⟨cs, hc, h0, x', y', z', p', q', e, h1, h2⟩ := own_tag ho (n := 11) k11
      simp only [BT.node.injEq] at e
      obtain ⟨rfl, rfl, rfl, rfl, rfl⟩ := e
      exact ⟨by rw [cell_of_row _ _ _ _ _ _ hc]; exact h0, by rw [cell_of_row _ _ _ _ _ _ hc]; exact h1, by rw [cell_of_row _ _ _ _ _ _ hc]; exact h2⟩
    have uq2 := uq_of (b := x) (o := y) uq.right
    have zp : z.tag ≠ 2 ∧ z.tag ≠ 3 ∧ z.tag ≠ 6 ∧ z.tag ≠ 10 := by omega
    have FIN2 : Hid _ := fun (w1 : World) ho W2 W3 x2 i2 x3 i3 => two_si (H := H) (fl := fl) (b := x) (o := y) (S := siR fl l S) (W2 := W2) (W3 := W3) (w := w1) hwp uq2 (by omega : z.tag ≠ 20) zp ho x2 i2 x3 i3
    have RK2 : Hid _ := fun (w1 : World) hi2 W2 x2 => right_kept (H := H) (b := x) (o := y) (W2 := W2) (w := w1) hwq uq2 hi2 x2 (by omega : z.tag ≠ 20)
    have hlen2 := ps_len x y z p q
    have hlP := siR_len fl p (siR fl l S)
    have vb1 : (siR fl l S).length + (ps p).length ≤ 1000000 := by omega
    have vb2 : (siR fl p (siR fl l S)).length + (ps q).length ≤ 1000000 := by omega
    have HO2 : Hid _ := own2
    have m2 := (own2 w hown).1
    have hcall := hgl S w h hi.1 hb1
    rw [hvl] at m2 hcall
    rw [run_si zp]
    have HT : Hid (a.tag = 11) := k11
    rw [show ityp a.tag = 332 by rw [k11]; rfl]
    clear hE hE2 hC hB hI hw hH hnd uq hown hv hsig hwl hwr hi k10 k11 own2 hgl hgp hgq uq2 zp hlen hlen2 hlR hlP h hwl0 hp hS hne
    go_enter Tryz.func129, Tryz.ntmps129
    go_wp2_with fail
    refine hcall.mono ?_
    rintro e W2 ⟨rfl, h2, i2, x2⟩
    obtain ⟨j2, o2⟩ := RK.out W2 x2
    have m3 := (HO2.out W2 o2).2.1
    have hcall2 := HP.out _ _ h2 j2.1 vb1
    rw [hvp] at m3 hcall2
    go_wp2_with fail
    refine hcall2.mono ?_
    rintro e W3 ⟨rfl, h3, i3, x3⟩
    obtain ⟨j3, z3⟩ := RK2.out W2 j2 W3 x3
    have x3' : Fr H (Pt (.node x y z p q)) W2 W3 := x3.mono Pt.left
    have o3 := own_fr o2 x3' Pt.body (fun p hp ty hq => HU.out.own_r p hp hq.2) (by have := HT.out; omega)
    have m4 := (HO2.out W3 o3).2.2
    have hcall3 := HQ.out _ _ h3 j3 vb2
    rw [hvq] at m4 hcall3
    go_wp2_with fail
    refine hcall3.mono ?_
    rintro e W4 ⟨rfl, h4, i4, x4⟩
    go_wp2
    go_end0
    obtain ⟨g1, g2⟩ := FIN2.out W2 j2.2.2 W3 W4 x3 i3 x4 i4
    exact ⟨rfl, h4, FIN.out W2 W4 x2 i2 g2 g1⟩
  by_cases k12 : a.tag = 12
  · obtain ⟨hwl0, hgl⟩ := hC (.inr k12)
    obtain ⟨hwr0, hgr⟩ := hB k12
    obtain ⟨u, pp, hvl⟩ := hwl0.val (.inr (.inl rfl))
    obtain ⟨ao, cp, hvr⟩ := hwr0.lstval (.inr (.inl rfl))
    have HR : Hid (GSi 76 H pb nb it vA vF m fl valT r) := hgr
    have own2 : ∀ w', Own w' b a l r → w'.cell? ⟨b, 0, none⟩ = some (valT l) ∧ w'.cell? ⟨b, 1, none⟩ = some (valT r) := by
      intro w' ho
      obtain ⟨cs, hc, h2, h3⟩ := own_tag ho (n := 12) k12
      exact ⟨by rw [cell_of_row _ _ _ _ _ _ hc]; exact h2, by rw [cell_of_row _ _ _ _ _ _ hc]; exact h3⟩
    have m2 := (own2 w hown).1
    have HO2 : Hid _ := own2
    have hcall := hgl S w h hi.1 hb1
    rw [hvl] at m2 hcall
    rw [show ityp a.tag = 338 by rw [k12]; rfl]
    clear hE hE2 hC hB hI hw hH hnd uq hown hv hsig hwl hwr hi k10 k11 k12 own2 hgl hgr hlen hlR h hwl0 hwr0 hp hS hne
    go_enter Tryz.func129, Tryz.ntmps129
    go_wp2_with fail
    refine hcall.mono ?_
    rintro e W2 ⟨rfl, h2, i2, x2⟩
    obtain ⟨j2, o2⟩ := RK.out W2 x2
    have m3 := (HO2.out W2 o2).2
    have hcall2 := HR.out _ _ h2 j2 hb2
    rw [hvr] at m3 hcall2
    go_wp2_with fail
    refine hcall2.mono ?_
    rintro e W3 ⟨rfl, h3, i3, x3⟩
    go_wp2
    go_end0
    exact ⟨rfl, h3, FIN.out W2 W3 x2 i2 x3 i3⟩
  have k3 : a.tag = 9 ∨ a.tag = 13 ∨ a.tag = 14 := by omega
  have hr0 : r = .nil := by
    have : sy = 99 := by rcases k3 with h | h | h <;> rw [h] at hsig <;> cases hsig <;> rfl
    subst this; exact hwr.nil_of
  subst hr0
  obtain ⟨hwl0, hgl⟩ := hE (by omega)
  obtain ⟨u, pp, hvl⟩ := hwl0.val (.inl rfl)
  have hcall := hgl S w h hi.1 hb1
  rw [hvl] at hcall
  rcases k3 with k9 | k13 | k14
  · have m2 : w.cell? ⟨b, 3, none⟩ = some (valT l) := by
      obtain ⟨cs, hc, _, h3, _⟩ := own_tag hown (n := 9) k9
      rw [cell_of_row _ _ _ _ _ _ hc]; exact h3
    rw [hvl] at m2
    rw [show ityp a.tag = 326 by rw [k9]; rfl]
    clear hE hE2 hC hB hI hw hH hnd uq hown hv hsig hwl hwr hi k9 k10 k11 k12 hgl hlen hlR h hwl0 hp hS hne
    go_enter Tryz.func129, Tryz.ntmps129
    go_wp2_with fail
    refine hcall.mono ?_
    rintro e W2 ⟨rfl, h2, i2, x2⟩
    go_wp2
    go_end0
    exact ⟨rfl, h2, FIN.out W2 W2 x2 i2 (Fr.refl _ _ _) trivial⟩
  · have m2 : w.cell? ⟨b, 0, none⟩ = some (valT l) := by
      obtain ⟨cs, hc, h2⟩ := own_tag hown (n := 13) k13
      rw [cell_of_row _ _ _ _ _ _ hc]; exact h2
    rw [hvl] at m2
    rw [show ityp a.tag = 341 by rw [k13]; rfl]
    clear hE hE2 hC hB hI hw hH hnd uq hown hv hsig hwl hwr hi k13 k10 k11 k12 hgl hlen hlR h hwl0 hp hS hne
    go_enter Tryz.func129, Tryz.ntmps129
    go_wp2_with fail
    refine hcall.mono ?_
    rintro e W2 ⟨rfl, h2, i2, x2⟩
    go_wp2
    go_end0
    exact ⟨rfl, h2, FIN.out W2 W2 x2 i2 (Fr.refl _ _ _) trivial⟩
  · have m2 : w.cell? ⟨b, 0, none⟩ = some (valT l) := by
      obtain ⟨cs, hc, h2⟩ := own_tag hown (n := 14) k14
      rw [cell_of_row _ _ _ _ _ _ hc]; exact h2
    rw [hvl] at m2
    rw [show ityp a.tag = 344 by rw [k14]; rfl]
    clear hE hE2 hC hB hI hw hH hnd uq hown hv hsig hwl hwr hi k14 k10 k11 k12 hgl hlen hlR h hwl0 hp hS hne
    go_enter Tryz.func129, Tryz.ntmps129
    go_wp2_with fail
    refine hcall.mono ?_
    rintro e W2 ⟨rfl, h2, i2, x2⟩
    go_wp2
    go_end0
    exact ⟨rfl, h2, FIN.out W2 W2 x2 i2 (Fr.refl _ _ _) trivial⟩

set_option maxRecDepth 100000 in
set_option maxHeartbeats 8000000 in
theorem block_si {l : Tr} (hwl : Ws 4 l) (hnd : (ps l).Nodup) (hA : AllG (fun e => Ws 2 e ∧ GSi 129 H pb nb it vA vF m fl valT e) (elems l)) : GSi 76 H pb nb it vA vF m fl valT l := by
  intro S w h hi hS
  obtain ⟨ao, cp, hvl⟩ := hwl.lstval (.inr (.inl rfl))
  have hlen := lenV_le (.inr (.inl rfl)) hwl
  have hps := ps_elems (.inr (.inl rfl)) hwl
  have hndl : (ps (elems l)).Nodup := by rw [← hps]; exact hnd
  have hwel := hwl.elems (.inr (.inl rfl))
  have iel : IsT w (elems l) := by
    cases l with
    | nil => trivial
    | node => exact hi.1
  rw [hps] at hS
  have HND : Hid ((ps (elems l)).Nodup) := hndl
  have HWE : Hid (Ws 14 (elems l)) := hwel
  have HWL : Hid (Ws 4 l) := hwl
  have HI1 : Hid (IsT w l) := hi
  have L0 := LpS.start (L := elems l) h iel
  have FIN : Hid (∀ wr, Fr H (Pt (elems l)) w wr → SiW H pb nb it vA vF m fl (siR fl (elems l) S) wr → IsT wr (siT fl (elems l) S) → PostS H pb nb it vA vF m fl (Pt l) (siT fl l S) (siR fl l S) w (.returned (.tuple #[])) wr) := by
    intro wr hx hr ir
    have hx' : Fr H (Pt l) w wr := hx.mono fun t p hp => ⟨hp.1, by rw [hps]; exact hp.2⟩
    exact ⟨rfl, by rw [lst_siR (.inr (.inl rfl)) hwl]; exact hr, lst_si (.inr (.inl rfl)) hwl hi hx' Pt.body ir, hx'⟩
  rw [hvl]
  clear hps hndl hwel iel hwl hnd hi h
  go_enter Tryz.func76, Tryz.ntmps76
  go_wp2_with fail
  go_loopg [8] (lenV l) (fun m' v wr => ∃ (i : Nat) (si : Sl), v = .int .i64 i ∧ i ≤ lenV l ∧ lenV l ≤ i + m' ∧ si.length + (ps (dropL i (elems l))).length ≤ 1000000 ∧ LpS H pb nb it vA vF m fl (elems l) S w i si wr)
  case atStart => exact ⟨0, S, rfl, Nat.zero_le _, by omega, hS, L0⟩
  case round =>
    clear L0
    obtain ⟨i, si, rfl, hle, hm, hvi, LP⟩ := hrel
    have HLP : Hid _ := LP
    by_cases hlt : i < lenV l
    · have hltI : (i : Int) < (lenV l : Int) := by omega
      obtain ⟨b2, o2, a2, e2, r2, hd, hd2⟩ := dropL_lt i (elems l) (by rw [← lenV_elems]; exact hlt)
      have hAi := AllG.drop i _ hA
      rw [hd] at hAi hvi
      obtain ⟨h15, ⟨hE, hG⟩, _⟩ := hAi
      obtain ⟨gg, rfl, hcell⟩ := lst_cell (.inr (.inl rfl)) HWL.out HI1.out LP.fr Pt.body hvl hd (by
        cases e2 with
        | nil => exact absurd hE (by unfold Ws nilOk; omega)
        | node b o a l r =>
          have := stmt_tag hE
          exact ⟨b, o, a, l, r, rfl, by omega, by omega⟩)
      obtain ⟨u, p, hve⟩ := hE.val (.inr (.inr (.inl rfl)))
      have hie := LP.rest
      rw [hd] at hie
      have hpl := ps_len b2 o2 a2 e2 r2
      rw [if_neg (by omega), if_neg (by rw [h15]; intro h; exact absurd h.2 (by decide))] at hpl
      have hsl := siR_len fl e2 si
      have HV3 : Hid ((siR fl e2 si).length + (ps (dropL (i + 1) (elems l))).length ≤ 1000000) := by rw [Hid, hd2]; omega
      have hcall := hG si wr LP.rs hie.1 (by omega)
      rw [hve] at hcell hcall
      have HSTEP : Hid _ := fun w3 => HLP.out.step (w3 := w3) (.inr (.inl rfl)) HWE.out HND.out hd hd2
      clear hG hE hd hd2 hie LP hpl hsl hvi
      go_wp2_with fail
      refine hcall.mono ?_
      rintro e W3 ⟨rfl, h3, i3, x3⟩
      obtain ⟨m', rfl⟩ : ∃ m', gk = m' + 1 := ⟨gk - 1, by omega⟩
      have fin : ∃ (i' : Nat) (si : Sl), Value.int .i64 ((i : Int) + 1) = .int .i64 i' ∧ i' ≤ lenV l ∧ lenV l ≤ i' + m' ∧ si.length + (ps (dropL i' (elems l))).length ≤ 1000000 ∧ LpS H pb nb it vA vF m fl (elems l) S w i' si W3 :=
        ⟨i + 1, _, by simp, by omega, by omega, HV3.out, HSTEP.out W3 h3 i3 x3⟩
      clear HSTEP HLP h3 i3 x3 HV3
      go_wp2
      go_roundg m'
      case rel => exact fin
      case measure => omega
    · have hltI : ¬ (i : Int) < (lenV l : Int) := by omega
      have hi2 : i = lenL (elems l) := by rw [← lenV_elems]; omega
      have fin : PostS H pb nb it vA vF m fl (Pt l) (siT fl l S) (siR fl l S) w (.returned (.tuple #[])) wr := by
        subst hi2
        obtain ⟨e1, e2⟩ := LP.fin
        have hr := LP.rs
        rw [e1] at hr
        exact FIN.out wr LP.fr hr e2
      clear hi2 LP HLP FIN
      go_wp2
      go_end0
      exact fin

/-- All parts of a function. -/
theorem parts_si : ∀ (n : Nat) (t : Tr), szT t ≤ n → Fresh H t → (ps t).Nodup → Cv fl.length t →
    (Ws 0 t → GSi 197 H pb nb it vA vF m fl valT t) ∧ (Ws 1 t → GSi 199 H pb nb it vA vF m fl valT t) ∧ (Ws 2 t → GSi 129 H pb nb it vA vF m fl valT t) ∧ (Ws 4 t → GSi 76 H pb nb it vA vF m fl valT t) ∧
    (Ws 13 t → AllG (fun e => Ws 0 e ∧ GSi 197 H pb nb it vA vF m fl valT e) t) ∧ (Ws 14 t → AllG (fun e => Ws 2 e ∧ GSi 129 H pb nb it vA vF m fl valT e) t) := by
  intro n
  induction n with
  | zero => intro t h; cases t <;> simp [szT] at h
  | succ n ih =>
    intro t hsz hF hnd hcv
    cases t with
    | nil =>
      refine ⟨fun h => absurd h (by unfold Ws nilOk; omega), fun h => absurd h (by unfold Ws nilOk; omega), fun h => absurd h (by unfold Ws nilOk; omega), fun h => ?_, fun _ => trivial, fun _ => trivial⟩
      exact block_si h hnd trivial
    | node b o a l r =>
      have hl : szT l ≤ n ∧ szT r ≤ n := by simp only [szT] at hsz; omega
      obtain ⟨Fl, Fr_⟩ := fresh_parts hF
      have uq := uq_of hnd
      obtain ⟨cl, cr, c3⟩ := hcv.mk
      have IL := ih l hl.1 Fl uq.left cl
      have IR := ih r hl.2 Fr_ uq.right cr
      have elemsOf : Ws 3 l → AllG (fun e => Ws 0 e ∧ GSi 197 H pb nb it vA vF m fl valT e) (elems l) := by
        intro hw
        rcases hw.lst (.inl rfl) with rfl | ⟨b2, o2, a2, l2, rfl, h20, hw2⟩
        · trivial
        · have hsz2 : szT l2 ≤ n := by have := hl.1; simp only [szT] at this; omega
          exact (ih l2 hsz2 Fl.1 (uq_of uq.left).left cl.mk.1).2.2.2.2.1 hw2
      refine ⟨fun hw => ?_, fun hw => ?_, fun hw => ?_, fun hw => ?_, fun hw => ?_, fun hw => ?_⟩
      · obtain ⟨hok, x, y, hsig, hwl, hwr⟩ := hw.parts
        refine expr_si hw hF hnd (fun hk => ?_) (fun hk => ?_) (fun hk => ?_)
        · have : x = 0 := by rcases hk with h | h | h <;> rw [h] at hsig <;> cases hsig <;> rfl
          subst this; exact ⟨hwl, IL.1 hwl⟩
        · rw [hk] at hsig; cases hsig
          exact binary_si hk hF hnd ⟨hwl, IL.1 hwl⟩ ⟨hwr, IR.1 hwr⟩
        · have : x = 3 := by rw [hk] at hsig; cases hsig; rfl
          subst this
          exact call_si hk hw hF hnd (c3 hk) (elemsOf hwl)
      · obtain ⟨hok, x, y, hsig, hwl, hwr⟩ := hw.parts
        refine cond_si hw hnd (fun hk => ?_) (fun hk => ?_)
        · rw [hk] at hsig; cases hsig
          exact ⟨hwl, hwr, IL.1 hwl, IR.1 hwr⟩
        · rw [hk] at hsig; cases hsig
          exact ⟨hwl, hwr, IL.2.1 hwl, IR.2.1 hwr⟩
      · obtain ⟨hok, x, y, hsig, hwl, hwr⟩ := hw.parts
        refine stmt_si hw hF hnd (fun hk => ?_) (fun hk => ?_) (fun hk => ?_) (fun hk => ?_) (fun hk => ?_)
        · have : x = 0 := by rcases hk with h | h | h | h <;> rw [h] at hsig <;> cases hsig <;> rfl
          subst this; exact ⟨hwl, IL.1 hwl⟩
        · rw [hk] at hsig; cases hsig
          exact ⟨hwr, IR.1 hwr⟩
        · have : x = 1 := by rcases hk with h | h <;> rw [h] at hsig <;> cases hsig <;> rfl
          subst this; exact ⟨hwl, IL.2.1 hwl⟩
        · rw [hk] at hsig; cases hsig
          exact ⟨hwr, IR.2.2.2.1 hwr⟩
        · rw [hk] at hsig; cases hsig
          cases r with
          | nil => exact absurd hwr (by unfold Ws nilOk; omega)
          | node x y z p q =>
            obtain ⟨_, sp, sq, hs2, hwp, hwq⟩ := hwr.parts
            have hz : z.tag = 18 := by
              by_cases h : z.tag = 18
              · exact h
              · exfalso; simp [sig, h] at hs2
            rw [hz] at hs2
            cases hs2
            have hs : szT p ≤ n ∧ szT q ≤ n := by have := hl.2; simp only [szT] at this; omega
            have u2 := uq_of uq.right
            exact ⟨x, y, z, p, q, rfl, hz, hwp, hwq, (ih p hs.1 Fr_.1 u2.left cr.mk.1).2.2.2.1 hwp, (ih q hs.2 Fr_.2.1 u2.right cr.mk.2.1).2.2.2.1 hwq⟩
      · obtain ⟨b2, o2, a2, l2, e, h20, hw2⟩ := (hw.lst (.inr (.inl rfl))).resolve_left (by intro h; cases h)
        simp only [BT.node.injEq] at e
        obtain ⟨rfl, rfl, rfl, rfl, rfl⟩ := e
        exact block_si hw hnd (IL.2.2.2.2.2 hw2)
      · obtain ⟨h15, hwe, hwr⟩ := ws_rest (.inl rfl) hw
        exact ⟨h15, ⟨hwe, IL.1 hwe⟩, IR.2.2.2.2.1 hwr⟩
      · obtain ⟨h15, hwe, hwr⟩ := ws_rest (.inr (.inl rfl)) hw
        exact ⟨h15, ⟨hwe, IL.2.2.1 hwe⟩, IR.2.2.2.2.2 hwr⟩
end Go.Proofs.YtikffmloeifkpaaGreatDoor

/- Package sites: Number. -/
namespace Go.Proofs.YtikffmloeifkpaaGreatDoor
open Go.RowKit Go.Lib Go.Deep Go.ChangeMaps Go.MapKept
variable {H pb nb : Nat} {it vA vF : Value} {m : Int} {fl : List Tr}

/-- Parts where no site is. -/
def still (s : Nat) : Bool := s == 5 || s == 6 || s == 15 || s == 16 || s == 20 || s == 21 || s == 22 || s == 99
def stillOk (o : Option (Nat × Nat)) : Bool := match o with
  | none => true
  | some (x, y) => still x && still y
set_option maxRecDepth 10000 in
theorem still_small : ∀ s < 24, ∀ n < 21, still s = true → stillOk (sig s n) = true ∧ ((n == 2 || n == 3 || n == 6 || n == 10) = true → (sig s n).isNone = true) := by decide
theorem still_kids {s n x y : Nat} (h : sig s n = some (x, y)) (hs : still s = true) : (n ≠ 2 ∧ n ≠ 3 ∧ n ≠ 6 ∧ n ≠ 10) ∧ still x = true ∧ still y = true := by
  by_cases hp : s < 24
  · by_cases hn : n < 21
    · obtain ⟨h1, h2⟩ := still_small s hp n hn hs
      rw [h] at h1 h2
      refine ⟨⟨fun e => ?_, fun e => ?_, fun e => ?_, fun e => ?_⟩, by simpa [stillOk] using h1⟩
      all_goals
        rw [e] at h2
        cases h2 (by decide)
    · rw [sig_tag (by omega)] at h; cases h
  · rw [sig_big (by omega)] at h; cases h
theorem plain_si {b o : Nat} {a : Nd} {l r : Tr} {S : Sl} (hp : a.tag ≠ 2 ∧ a.tag ≠ 3 ∧ a.tag ≠ 6 ∧ a.tag ≠ 10) : siT fl (.node b o a l r) S = .node b o a (siT fl l S) (siT fl r (siR fl l S)) := by
  show BT.node b o { a with site := siNo fl a S (siR fl l (siPre fl a S)) } (siT fl l (siPre fl a S)) (siT fl r (siMid a (siR fl l (siPre fl a S)))) = _
  rw [(siPlain (fl := fl) (S := S) (S1 := S) hp).1, (siPlain (fl := fl) (S := S) (S1 := siR fl l S) hp).2.1, (siPlain (fl := fl) (S := S) (S1 := siR fl l S) hp).2.2]
theorem nosite : ∀ (t : Tr) (s : Nat), Ws s t → still s = true → ∀ S, siR fl t S = S ∧ siT fl t S = t := by
  intro t
  induction t with
  | nil => intro s _ _ S; exact ⟨rfl, rfl⟩
  | node b o a l r ihl ihr =>
    intro s hw hs S
    obtain ⟨_, x, y, hsig, hl, hr⟩ := hw.parts
    obtain ⟨hp, kx, ky⟩ := still_kids hsig hs
    rw [run_si hp, plain_si hp, (ihl x hl kx S).1, (ihl x hl kx S).2, (ihr y hr ky S).1, (ihr y hr ky S).2]
    exact ⟨rfl, rfl⟩
/-- The items of one kind. -/
def kindOf (k : Nat) : Tr → List Tr
  | .nil => []
  | .node _ _ _ e r => if tagOf e = k then e :: kindOf k r else kindOf k r
theorem ptrs_kind (k : Nat) (L : Tr) : ptrs k L = (kindOf k L).map ptrT := by
  induction L with
  | nil => rfl
  | node b o a e r _ ih =>
    show (if tagOf e = k then _ else _) = (if tagOf e = k then _ else _ : List Tr).map ptrT
    split
    · rw [ih]; rfl
    · exact ih
theorem func_si {b o : Nat} {a : Nd} {l : Tr} {x y : Nat} {z : Nd} {p q : Tr} {S : Sl} (ht : a.tag = 17) (hz : z.tag = 18) (hl : Ws 6 l) (hp : Ws 5 p) : siR fl (.node b o a l (.node x y z p q)) S = siR fl q S ∧ siT fl (.node b o a l (.node x y z p q)) S = .node b o a l (.node x y z p (siT fl q S)) := by
  have h1 := fun S => nosite (fl := fl) l 6 hl rfl S
  have h2 := fun S => nosite (fl := fl) p 5 hp rfl S
  rw [run_si (by omega), plain_si (by omega), run_si (by omega), plain_si (by omega), (h1 S).1, (h1 S).2, (h2 S).1, (h2 S).2]
  exact ⟨rfl, rfl⟩
/-- A function's number done. -/
theorem func_done {b o : Nat} {a : Nd} {l : Tr} {x y : Nat} {z : Nd} {p q : Tr} {S : Sl} {w w' : World} (ht : a.tag = 17) (hz : z.tag = 18) (hl : Ws 6 l) (hp : Ws 5 p) (hnd : (ps (.node b o a l (.node x y z p q))).Nodup) (hi : IsT w (.node b o a l (.node x y z p q))) (hx : Fr H (Pt q) w w') (hq : IsT w' (siT fl q S)) :
    IsT w' (siT fl (.node b o a l (.node x y z p q)) S) ∧ Fr H (Pt (.node b o a l (.node x y z p q))) w w' := by
  have u1 := uq_of hnd
  have u2 := uq_of (b := x) (o := y) u1.right
  rw [(func_si ht hz hl hp).2]
  have hx2 : Fr H (Pt (.node x y z p q)) w w' := hx.mono Pt.right
  refine ⟨⟨IsT.fr hx2 (fun t p hp => (Pt.body t p hp).pos) hl hi.1 (Pt.out u1.apart_), ⟨IsT.fr hx (fun t p hp => (Pt.body t p hp).pos) hp hi.2.1.1 (Pt.out u2.apart_), hq, ?_⟩, ?_⟩, hx2.mono Pt.right⟩
  · unfold Own
    rw [hz]
    trivial
  · have o2 := own_fr hi.2.2 hx2 Pt.body (fun p hp ty hq => u1.own_r p hp hq.2) (by omega)
    exact own_sh o2 (Sh.refl _) ⟨rfl, rfl, rfl, rfl, rfl, rfl, rfl, rfl, fun _ => rfl, fun _ => rfl, Sh.refl _, siT_sh _ _ _⟩
theorem item_kind {e : Tr} (h : Ws 7 e) (hk : tagOf e ≠ 17) : (∀ S, siR fl e S = S ∧ siT fl e S = e) := by
  obtain ⟨b, o, a, l, r, rfl, ht⟩ := item_of h
  have h16 : a.tag = 16 := ht.resolve_right hk
  obtain ⟨_, x, y, hsig, hl, hr⟩ := h.parts
  rw [h16] at hsig
  cases hsig
  obtain rfl := hl.nil_of
  obtain rfl := hr.nil_of
  intro S
  rw [run_si (by omega), plain_si (by omega)]
  exact ⟨rfl, rfl⟩
variable {L : Tr} {S1 : Sl} {W1 wr : World}
/-- What is no function is passed by. -/
theorem LpS.skip (hw : Ws 18 L) (hnd : (ps L).Nodup) {si : Sl} : ∀ (n i : Nat), lenL L - i = n → i ≤ lenL L → LpS H pb nb it vA vF m fl L S1 W1 i si wr → si.length + (ps (dropL i L)).length ≤ 1000000 →
    ∃ i', i' ≤ lenL L ∧ kindOf 17 (dropL i' L) = kindOf 17 (dropL i L) ∧ LpS H pb nb it vA vF m fl L S1 W1 i' si wr ∧ si.length + (ps (dropL i' L)).length ≤ 1000000 ∧ (i' = lenL L ∨ ∃ b o a e r, dropL i' L = .node b o a e r ∧ dropL (i' + 1) L = r ∧ i' < lenL L ∧ tagOf e = 17) := by
  intro n
  induction n with
  | zero => intro i hn hi h hb; exact ⟨i, hi, rfl, h, hb, .inl (by omega)⟩
  | succ n ih =>
    intro i hn hi h hb
    obtain ⟨b, o, a, e, r, hd, hd2⟩ := dropL_lt i L (by omega)
    by_cases hk : tagOf e = 17
    · exact ⟨i, hi, rfl, h, hb, .inr ⟨b, o, a, e, r, hd, hd2, by omega, hk⟩⟩
    · have hwd := ws_drop (.inr (.inr (.inr (.inr rfl)))) i _ hw
      rw [hd] at hwd
      obtain ⟨h15, hwe, _⟩ := ws_rest (.inr (.inr (.inr (.inr rfl)))) hwd
      obtain ⟨e1, e2⟩ := item_kind (fl := fl) hwe hk si
      have hr := h.rest
      rw [hd] at hr
      have st := h.step (w3 := wr) (.inr (.inr (.inr (.inr rfl)))) hw hnd hd hd2 (by rw [e1]; exact h.rs) (by rw [e2]; exact hr.1) (Fr.refl _ _ _)
      rw [e1] at st
      have hpl := ps_len b o a e r
      rw [if_neg (by omega), if_neg (by rw [h15]; intro h; exact absurd h.2 (by decide))] at hpl
      obtain ⟨i', k1, k2, k3⟩ := ih (i + 1) (by omega) (by omega) st (by rw [hd2]; rw [hd] at hb; omega)
      refine ⟨i', k1, ?_, k3⟩
      rw [k2, hd2, hd]
      exact (if_neg hk).symm
theorem FnsW.get {w : World} (h : FnsW H vF fl w) {j : Nat} {e : Tr} (hj : fl[j]? = some e) : ∃ g cp b o a l x y z p q, vF = .slice (some ⟨g, 0, none⟩) fl.length cp ∧ w.cell? ⟨g, j, none⟩ = some (.pointer (some ⟨b, 0, none⟩)) ∧ e = .node b o a l (.node x y z p q) ∧ FnW w b a l p q := by
  have hjl : j < fl.length := by
    rcases Nat.lt_or_ge j fl.length with h | h
    · exact h
    · rw [List.getElem?_eq_none h] at hj; cases hj
  obtain ⟨b, o, a, l, x, y, z, p, q, e1, hf, _⟩ := h.own e (List.mem_of_getElem? hj)
  obtain ⟨g, cp, hv⟩ : ∃ g cp, vF = .slice (some ⟨g, 0, none⟩) fl.length cp := by
    obtain ⟨ao, cp, e1, e2⟩ := slice_any h.row
    rcases e2 with e2 | ⟨g, e2⟩
    · omega
    · exact ⟨g, cp, by rw [e1, e2]⟩
  have hc := h.row
  rw [hv] at hc
  have hcell := hc.cellAt j (by omega)
  refine ⟨g, cp, b, o, a, l, x, y, z, p, q, hv, ?_, e1, hf⟩
  rw [hcell, List.getElem?_map, hj, e1]
  rfl
theorem fns_mem : ∀ (L : Tr), Ws 18 L → ∀ e ∈ kindOf 17 L, ∀ w, IsT w L → ∃ b o a l x y z p q, e = .node b o a l (.node x y z p q) ∧ FnW w b a l p q ∧ Ws 5 p ∧ Ws 4 q := by
  intro L
  induction L with
  | nil => intro _ e he; cases he
  | node b o a e0 r _ ih =>
    intro hw e he w hi
    obtain ⟨_, hwe, hwr⟩ := ws_rest (.inr (.inr (.inr (.inr rfl)))) hw
    have he : e ∈ (if tagOf e0 = 17 then e0 :: kindOf 17 r else kindOf 17 r) := he
    by_cases hk : tagOf e0 = 17
    · rw [if_pos hk] at he
      rcases List.mem_cons.1 he with rfl | he
      · obtain ⟨b, o, a, l, r, rfl, _⟩ := item_of hwe
        obtain ⟨hl, x, y, z, p, q, rfl, hz, hp, hq⟩ := func_of hwe hk
        refine ⟨b, o, a, l, x, y, z, p, q, rfl, ?_, hp, hq⟩
        obtain ⟨cs, hc, hn, h3, x', y', z', p', q', e, h4, h5, h6⟩ := own_tag hi.1.2.2 (n := 17) hk
        simp only [BT.node.injEq] at e
        obtain ⟨rfl, rfl, rfl, rfl, rfl⟩ := e
        exact ⟨cs, hc, hn, h3, h4, h5, h6⟩
      · exact ih hwr e he w hi.2.1
    · rw [if_neg hk] at he
      exact ih hwr e he w hi.2.1
theorem cv_drop : ∀ (i : Nat) (L : Tr) {n : Nat}, Cv n L → Cv n (dropL i L) := by
  intro i
  induction i with
  | zero => intro L n h; exact h
  | succ i ih =>
    intro L n h
    cases L with
    | nil => exact h
    | node b o a l r => exact ih r h.mk.2.1

/-- What Number leaves. -/
def NumW (H pb : Nat) (it vA vF : Value) (m : Int) (fl : List Tr) (T : Tr) (w w' : World) : Prop := ∃ nb, SiW H pb nb it vA vF m fl (siR fl T []) w' ∧ IsT w' (siT fl T []) ∧ Fr H (Pt T) w w'
def PostU (H pb : Nat) (it vA vF : Value) (m : Int) (fl : List Tr) (T : Tr) (w : World) : Ending → World → Prop := fun e w' => e = .returned (.tuple #[]) ∧ NumW H pb it vA vF m fl T w w'
set_option maxRecDepth 100000 in
set_option maxHeartbeats 8000000 in
theorem Number_any {T : Tr} (hw : Ws 8 T) (hF : Fresh H T) (hnd : (ps T).Nodup) (hcv : Cv (kindOf 17 (elems T)).length T) (hpH : H ≤ pb) (w : World) (hH : H ≤ w.heap.size) (hi : IsT w T) (hp : w.heap[pb]? = some (.cells (prgC it vA vF m (.slice none 0 0)) 111 (0, 0)))
    (hrow : w.ownsRow H 106 1 vF (kindOf 17 (elems T)).length ((kindOf 17 (elems T)).map ptrT)) (hps : (ps T).length ≤ 900000) :
    Calls Tryz.prog 44 #[.pointer (some ⟨pb, 0, none⟩)] w (PostU H pb it vA vF m (kindOf 17 (elems T)) T w) := by
  obtain ⟨fl, hfl⟩ : ∃ fl, fl = kindOf 17 (elems T) := ⟨_, rfl⟩
  rw [← hfl] at hcv hrow ⊢
  have hL := hw.elems (.inr (.inr (.inr (.inr rfl))))
  have hpsL := ps_elems (.inr (.inr (.inr (.inr rfl)))) hw
  have hndL : (ps (elems T)).Nodup := by rw [← hpsL]; exact hnd
  have hlen := lenV_le (.inr (.inr (.inr (.inr rfl)))) hw
  have hpl := (Array.getElem?_eq_some_iff.1 hp).1
  have hcvL : Cv fl.length (elems T) := by
    cases T with
    | nil => trivial
    | node b o a l r => exact hcv.mk.1
  have hFL : Fresh H (elems T) := by
    cases T with
    | nil => trivial
    | node b o a l r => exact hF.1
  have iel : ∀ w, IsT w T → IsT w (elems T) := fun w hi => by
    cases T with
    | nil => trivial
    | node => exact hi.1
  have hfll : fl.length ≤ 10000 := by
    rw [lenV_elems] at hlen
    have : ∀ L : Tr, (kindOf 17 L).length ≤ lenL L := by
      intro L
      induction L with
      | nil => exact Nat.le_refl _
      | node b o a e r _ ih =>
        show (if tagOf e = 17 then e :: kindOf 17 r else kindOf 17 r).length ≤ lenL r + 1
        split
        · simp only [List.length_cons]; omega
        · omega
    have := this (elems T)
    rw [hfl]; omega
  -- ahead of the loop
  obtain ⟨W1, hW1⟩ : ∃ W1, W1 = (w.setCell ⟨pb, 4, none⟩ (.slice none 0 0)).alloc (.cells #[.pointer (some ⟨pb, 0, none⟩)] 156) := ⟨_, rfl⟩
  have zs : (w.setCell ⟨pb, 4, none⟩ (.slice none 0 0)).heap.size = w.heap.size := by simp [World.setCell]
  have f1 : Fr H F0 w W1 := by
    rw [hW1]
    refine ((Fr.refl H F0 w).set hpH (fun c t ht e => ?_) _ _).alloc _ (by rw [zs]; exact hH)
    rw [hp] at e
    simp only [Option.some.injEq, Obj.cells.injEq] at e
    rw [← e.2.1] at ht
    exact absurd ht (by unfold treeTyp treeTyp0; decide)
  have i1 : IsT W1 T := IsT.fr f1 (fun t p hp => absurd hp id) hw hi (fun _ _ _ h => h)
  have hp1 : W1.heap[pb]? = some (.cells (prgC it vA vF m (.slice none 0 0)) 111 (0, 0)) := by
    rw [hW1]
    refine (Below.heap_alloc _ _ _ (by rw [zs]; exact hpl)).trans ?_
    have := heap_set (o := 4) (.slice none 0 0) hp
    exact this
  have s1 : SiW H pb w.heap.size it vA vF m fl [] W1 := by
    refine ⟨?_, ⟨.slice none 0 0, hp1, World.ownsRow_nil _ _ _ _⟩, ⟨own_row_fr hrow f1 (.inr rfl) (fun t p hp => absurd hp id), fun e he => ?_⟩, hH, hpH⟩
    · rw [hW1, ← zs]; exact heap_alloc_new _ _
    · rw [hfl] at he
      exact fns_mem (elems T) hL e he W1 (iel _ i1)
  have L0 := LpS.start (L := elems T) s1 (iel _ i1)
  have c4 : w.cell? ⟨pb, 4, none⟩ = some (.slice none 0 0) := by rw [cell_of_row _ _ _ _ _ _ hp]; rfl
  have z4 : w.frozen? ⟨pb, 4, none⟩ = false := by simp [World.frozen?, hp]
  have c2 : W1.cell? ⟨pb, 2, none⟩ = some vF := by rw [cell_of_row _ _ _ _ _ _ hp1]; rfl
  obtain ⟨ao, cp, hvF, _⟩ := slice_any hrow
  have FIN : Hid (∀ wr, Fr H (Pt (elems T)) W1 wr → SiW H pb w.heap.size it vA vF m fl (siR fl (elems T) []) wr → IsT wr (siT fl (elems T) []) →
      NumW H pb it vA vF m fl T w wr) := by
    intro wr hx hr ir
    have hx' : Fr H (Pt T) W1 wr := hx.mono fun t p hp => ⟨hp.1, by rw [hpsL]; exact hp.2⟩
    exact ⟨_, by rw [lst_siR (.inr (.inr (.inr (.inr rfl)))) hw]; exact hr, lst_si (.inr (.inr (.inr (.inr rfl)))) hw i1 hx' Pt.body ir, (f1.mono F0.to).trans hx'⟩
  have HND : Hid ((ps (elems T)).Nodup) := hndL
  have HWE : Hid (Ws 18 (elems T)) := hL
  have HCV : Hid (Cv fl.length (elems T)) := hcvL
  have HFL : Hid (Fresh H (elems T)) := hFL
  have hb0 : ([] : Sl).length + (ps (elems T)).length ≤ 1000000 := by rw [← hpsL]; simp only [List.length_nil]; omega
  have hk0 : kindOf 17 (dropL 0 (elems T)) = fl.drop 0 := by rw [hfl]; rfl
  rw [hvF] at c2
  have HVF : Hid (vF = .slice ao fl.length cp) := hvF
  clear hcv hnd hF hw hL hpsL hndL hlen hcvL hFL hp1 s1 i1 f1 hi iel hrow hps zs hfl hvF
  go_enter Tryz.func44, Tryz.ntmps44
  go_upto_region 2 with fail
  rw [← hW1]
  clear hW1 hp c4 z4
  go_wp2_with fail
  go_loopg [15] fl.length (fun m' v wr => ∃ (j i : Nat) (si : Sl), v = .int .i64 j ∧ j ≤ fl.length ∧ fl.length ≤ j + m' ∧ i ≤ lenL (elems T) ∧ kindOf 17 (dropL i (elems T)) = fl.drop j ∧ si.length + (ps (dropL i (elems T))).length ≤ 1000000 ∧ LpS H pb w.heap.size it vA vF m fl (elems T) [] W1 i si wr)
  case atStart => exact ⟨0, 0, [], rfl, Nat.zero_le _, by omega, Nat.zero_le _, hk0, hb0, L0⟩
  case round =>
    clear L0
    obtain ⟨j, i0, si, rfl, hle, hm, hi0, hk, hb, LP0⟩ := hrel
    obtain ⟨i, hi1, hk1, LP, hb1, hcase⟩ := LP0.skip HWE.out HND.out _ i0 rfl hi0 hb
    rw [hk] at hk1
    clear hk hb LP0 hi0
    have HLP : Hid _ := LP
    by_cases hlt : j < fl.length
    · have hltI : (j : Int) < (fl.length : Int) := by omega
      obtain ⟨b2, o2, a2, e2, r2, hd, hd2, hil, htag⟩ := hcase.resolve_left (fun e => by
        rw [e, dropL_end] at hk1
        have := congrArg List.length hk1
        rw [List.length_drop] at this
        simp only [kindOf, List.length_nil] at this
        omega)
      have hget : fl[j]? = some e2 ∧ kindOf 17 r2 = fl.drop (j + 1) := by
        rw [hd] at hk1
        have hk2 : e2 :: kindOf 17 r2 = fl.drop j := by rw [← hk1]; exact (if_pos htag).symm
        constructor
        · have := congrArg (fun l => l[0]?) hk2
          simp only [List.getElem?_cons_zero, List.getElem?_drop, Nat.add_zero] at this
          exact this.symm
        · have := congrArg List.tail hk2
          simpa [List.tail_drop] using this
      obtain ⟨hget1, hget2⟩ := hget
      obtain ⟨g, cp2, b, o, a, l, x, y, z, p, q, hvF2, hcell, he2, hfw⟩ := LP.rs.fns.get hget1
      subst he2
      have hwd := ws_drop (.inr (.inr (.inr (.inr rfl)))) i _ HWE.out
      have uq := nd_drop i _ HND.out
      have hcd := cv_drop i _ HCV.out
      have hfd := fresh_drop i _ HFL.out
      have hrest := LP.rest
      rw [hd] at hwd uq hcd hfd hrest hb1
      obtain ⟨h15, hwe, _⟩ := ws_rest (.inr (.inr (.inr (.inr rfl)))) hwd
      obtain ⟨hl, x', y', z', p', q', e, hz, hp, hq⟩ := func_of hwe htag
      simp only [BT.node.injEq] at e
      obtain ⟨rfl, rfl, rfl, rfl, rfl⟩ := e
      have uqe : (ps (.node b o a l (.node x y z p q))).Nodup := (uq_of uq).left
      have u2 := uq_of (uq_of uqe).right
      have hGq := (parts_si (H := H) (pb := pb) (nb := w.heap.size) (it := it) (vA := vA) (vF := vF) (m := m) (fl := fl) (szT q) q (Nat.le_refl _) hfd.1.2.1.2.1 u2.right hcd.mk.1.mk.2.1.mk.2.1).2.2.2.1 hq
      have e1 := ps_len b2 o2 a2 (.node b o a l (.node x y z p q)) r2
      rw [if_neg (by omega), if_neg (by rw [h15]; intro h; exact absurd h.2 (by decide))] at e1
      have e2 := ps_len b o a l (.node x y z p q)
      have e3 := ps_len x y z p q
      have hcall := hGq si wr LP.rs hrest.1.2.1.2.1 (by omega)
      have hsl := siR_len fl q si
      have HB3 : Hid ((siR fl q si).length + (ps (dropL (i + 1) (elems T))).length ≤ 1000000) := by rw [Hid, hd2]; omega
      have HSTEP : Hid (∀ w3, SiW H pb w.heap.size it vA vF m fl (siR fl q si) w3 → IsT w3 (siT fl q si) → Fr H (Pt q) wr w3 → LpS H pb w.heap.size it vA vF m fl (elems T) [] W1 (i + 1) (siR fl q si) w3) := fun w3 k1 k2 k3 => by
        obtain ⟨d1, d2⟩ := func_done (fl := fl) htag hz hl hp uqe hrest.1 k3 k2
        have st := HLP.out.step (w3 := w3) (.inr (.inr (.inr (.inr rfl)))) HWE.out HND.out hd hd2 (by rw [(func_si htag hz hl hp).1]; exact k1) d1 d2
        rw [(func_si htag hz hl hp).1] at st
        exact st
      obtain ⟨ao3, cp3, hvq⟩ := hq.lstval (.inr (.inl rfl))
      obtain ⟨_, _, _, _, k5, _, _⟩ := hfw.cells
      rw [hvq] at k5 hcall
      have HK2 : Hid (kindOf 17 (dropL (i + 1) (elems T)) = fl.drop (j + 1)) := by rw [Hid, hd2]; exact hget2
      have hao : ao = some ⟨g, 0, none⟩ := by
        rw [HVF.out] at hvF2
        simp only [Value.slice.injEq] at hvF2
        exact hvF2.1
      subst hao
      clear hGq hd hd2 LP hsl hb1 e1 e2 e3 hrest hfd hcd uqe u2 uq hwd hwe hl hp hq hz hget1 hget2 hk1 htag hcase hvq hfw hvF2 h15
      go_wp2_with fail
      refine hcall.mono ?_
      rintro e W3 ⟨rfl, h3, i3, x3⟩
      obtain ⟨m', rfl⟩ : ∃ m', gk = m' + 1 := ⟨gk - 1, by omega⟩
      have fin : ∃ (j' i' : Nat) (si : Sl), Value.int .i64 ((j : Int) + 1) = .int .i64 j' ∧ j' ≤ fl.length ∧ fl.length ≤ j' + m' ∧ i' ≤ lenL (elems T) ∧ kindOf 17 (dropL i' (elems T)) = fl.drop j' ∧ si.length + (ps (dropL i' (elems T))).length ≤ 1000000 ∧ LpS H pb w.heap.size it vA vF m fl (elems T) [] W1 i' si W3 :=
        ⟨j + 1, i + 1, _, by simp, by omega, by omega, by omega, HK2.out, HB3.out, HSTEP.out W3 h3 i3 x3⟩
      clear HSTEP HLP h3 i3 x3 HB3 HK2
      go_wp2
      go_roundg m'
      case rel => exact fin
      case measure => omega
    · have hltI : ¬ (j : Int) < (fl.length : Int) := by omega
      have hi2 : i = lenL (elems T) := by
        rcases hcase with h | ⟨b2, o2, a2, e2, r2, hd, hd2, hil, htag⟩
        · exact h
        · exfalso
          rw [hd, List.drop_eq_nil_of_le (by omega)] at hk1
          have : (if tagOf e2 = 17 then e2 :: kindOf 17 r2 else kindOf 17 r2) = [] := hk1
          rw [if_pos htag] at this
          cases this
      have fin : NumW H pb it vA vF m fl T w wr := by
        subst hi2
        obtain ⟨e1, e2⟩ := LP.fin
        have hr := LP.rs
        rw [e1] at hr
        exact FIN.out wr LP.fr hr e2
      clear hi2 LP HLP FIN hcase hk1
      go_wp2
      go_end0
      exact ⟨rfl, fin⟩
end Go.Proofs.YtikffmloeifkpaaGreatDoor

/- Read: what the words are, plainly. -/
namespace Go.Proofs.YtikffmloeifkpaaGreatDoor
open Go.RowKit Go.Lib

/-- What holds of the words so far. -/
structure Wd (c : Cut) : Prop where
  lt : ∀ t ∈ c.words, 0 ≤ t.pos ∧ t.pos < c.start
  up : (c.words.map Tok.pos).Pairwise (· < ·)
  text : ∀ t ∈ c.words, t.text.size ≤ c.text.size
  vals : ∀ t ∈ c.words, 0 ≤ t.value ∧ t.value ≤ 999999999

theorem extract_size (s : ByteArray) (a b : Nat) : (s.extract a b).size ≤ s.size := by
  rw [ByteArray.size_extract]; omega
theorem finish_shape {c : Cut} {p : Nat} (h : Fine c p) : (c.finish p).words = c.words ∨ (c.mode ≠ 0 ∧ ∃ k v t, (c.finish p).words = c.words ++ [⟨k, c.start, t, v⟩] ∧ t.size ≤ c.text.size ∧ 0 ≤ v ∧ v ≤ 999999999) := by
  unfold Cut.finish
  by_cases h2 : c.mode = 2
  · rw [if_pos h2]; unfold Cut.named Cut.push
    have := c.fail_text 1 c.start
    split
    · exact .inl this.2.1
    · split
      · exact .inr ⟨by omega, _, _, _, rfl, Nat.zero_le _, by omega, by omega⟩
      · exact .inr ⟨by omega, _, _, _, rfl, extract_size _ _ _, by omega, by omega⟩
  rw [if_neg h2]
  by_cases h3 : c.mode = 3
  · rw [if_pos h3]; unfold Cut.number Cut.push
    have := c.fail_text 3 c.start
    have hr := numOf_range _ (h.digits h3)
    split
    · exact .inl this.2.1
    · exact .inr ⟨by omega, _, _, _, rfl, Nat.zero_le _, hr.1, by omega⟩
  rw [if_neg h3]
  by_cases h4 : c.mode = 4
  · rw [if_pos h4]; unfold Cut.sign Cut.push
    have := c.fail_text 1 c.start
    split
    · exact .inr ⟨by omega, _, _, _, rfl, Nat.zero_le _, by omega, by omega⟩
    · exact .inl this.2.1
  rw [if_neg h4]
  exact .inl rfl
/-- Where a word ends. -/
theorem finish_wd {c : Cut} {p : Nat} (hf : Fine c p) (h : Wd c) : (∀ t ∈ (c.finish p).words, 0 ≤ t.pos ∧ t.pos < p) ∧ ((c.finish p).words.map Tok.pos).Pairwise (· < ·) ∧ (∀ t ∈ (c.finish p).words, t.text.size ≤ c.text.size ∧ 0 ≤ t.value ∧ t.value ≤ 999999999) ∧ (c.finish p).words.length ≤ p := by
  have hlo := hf.lo
  have hhi := hf.hi
  have hcn := hf.count
  rcases finish_shape hf with e | ⟨hm, k, v, t, e, h1, h2, h3⟩
  · rw [e]
    exact ⟨fun t ht => by have := h.lt t ht; omega, h.up, fun t ht => ⟨h.text t ht, h.vals t ht⟩, by omega⟩
  · have hs := hf.some_ hm
    rw [e]
    refine ⟨fun t ht => ?_, ?_, fun t ht => ?_, by simp only [List.length_append, List.length_cons, List.length_nil]; omega⟩
    · rcases List.mem_append.1 ht with ht | ht
      · have := h.lt t ht; omega
      · simp only [List.mem_singleton] at ht; subst ht; exact ⟨hlo, hs⟩
    · rw [List.map_append]
      refine List.pairwise_append.2 ⟨h.up, by simp, fun a ha b hb => ?_⟩
      obtain ⟨t1, ht1, rfl⟩ := List.mem_map.1 ha
      simp only [List.map_cons, List.map_nil, List.mem_singleton] at hb
      subst hb
      exact (h.lt t1 ht1).2
    · rcases List.mem_append.1 ht with ht | ht
      · exact ⟨h.text t ht, h.vals t ht⟩
      · simp only [List.mem_singleton] at ht; subst ht; exact ⟨h1, h2, h3⟩
theorem step_wd {c : Cut} {p : Nat} {r : Int} (hf : Fine c p) (h : Wd c) : Wd (c.step p r) := by
  unfold Cut.step
  split
  · exact h
  · obtain ⟨b1, b2, b3, _⟩ := (c.finish p).begins_keeps p r
    obtain ⟨f1, _⟩ := c.finish_keeps p
    obtain ⟨g1, g2, g3, _⟩ := finish_wd hf h
    refine ⟨?_, ?_, ?_, ?_⟩
    · rw [b3, b2]; exact g1
    · rw [b3]; exact g2
    · rw [b3, b1, f1]; exact fun t ht => (g3 t ht).1
    · rw [b3]; exact fun t ht => (g3 t ht).2
/-- What the words of a text are. -/
structure WdsOk (s : ByteArray) (l : List Tok) : Prop where
  lt : ∀ t ∈ l, 0 ≤ t.pos ∧ t.pos < s.size
  up : (l.map Tok.pos).Pairwise (· < ·)
  text : ∀ t ∈ l, t.text.size ≤ s.size
  vals : ∀ t ∈ l, 0 ≤ t.value ∧ t.value ≤ 999999999
  few : l.length ≤ s.size
theorem run_wd (s : ByteArray) : ∀ (n : Nat) (c : Cut) (p : Nat), c.text = s → Fine c p → Wd c → s.size - p < n → (c.run n p).code = 0 → WdsOk s (c.run n p).words := by
  intro n
  induction n with
  | zero => intro c p _ _ _ h; omega
  | succ n ih =>
    intro c p hs hf h hn hc
    unfold Cut.run at hc ⊢
    rw [hs] at hc ⊢
    by_cases hp : p < s.size
    · rw [if_pos hp] at hc ⊢
      by_cases h0 : (c.step p (Utf8.decode s p).1).code = 0
      · rw [if_neg (by omega)] at hc ⊢
        have hw := Lib.decode_width_pos s p hp
        obtain ⟨f1, f2⟩ := hf.step (by rw [hs]; exact hp) (by rw [hs]; exact h0)
        rw [hs] at f1 f2
        exact ih _ _ f2 f1 (step_wd hf h) (by omega) hc
      · rw [if_pos h0] at hc
        exact absurd hc h0
    · rw [if_neg hp]
      obtain ⟨g1, g2, g3, g4⟩ := finish_wd hf h
      have hle := hf.le
      rw [hs] at hle g3
      have : p = s.size := by omega
      subst this
      exact ⟨g1, g2, fun t ht => (g3 t ht).1, fun t ht => (g3 t ht).2, g4⟩
theorem cut_wd (s : ByteArray) (hc : (cutOf s).code = 0) : WdsOk s (cutOf s).words :=
  run_wd s _ _ 0 rfl (Fine.start s) ⟨fun t ht => (by cases ht), .nil, fun t ht => (by cases ht), fun t ht => (by cases ht)⟩ (by omega) hc

/-- The words of a text, and the end. -/
def toksOf (s : ByteArray) : List Tok := (cutOf s).words ++ [⟨0, s.size, ByteArray.mk #[], 0⟩]
theorem toks_ends (s : ByteArray) : Ends (toksOf s) := by
  unfold Ends toksOf
  simp [List.getD]
theorem toks_small {s : ByteArray} (hc : (cutOf s).code = 0) (hs : s.size ≤ 4000) : Small (toksOf s) := by
  have h := cut_wd s hc
  refine ⟨fun t ht => ?_, fun t ht => ?_, ?_⟩
  · rcases List.mem_append.1 ht with ht | ht
    · exact Nat.le_trans (h.text t ht) hs
    · simp only [List.mem_singleton] at ht; subst ht; exact Nat.zero_le _
  · rcases List.mem_append.1 ht with ht | ht
    · exact h.vals t ht
    · simp only [List.mem_singleton] at ht; subst ht; exact ⟨by show (0 : Int) ≤ 0; omega, by show (0 : Int) ≤ 999999999; omega⟩
  · have := h.few
    simp only [toksOf, List.length_append, List.length_cons, List.length_nil]; omega
theorem toks_up {s : ByteArray} (hc : (cutOf s).code = 0) : ((toksOf s).map Tok.pos).Pairwise (· < ·) := by
  have h := cut_wd s hc
  unfold toksOf
  rw [List.map_append]
  refine List.pairwise_append.2 ⟨h.up, by simp, fun a ha b hb => ?_⟩
  obtain ⟨t, ht, rfl⟩ := List.mem_map.1 ha
  simp only [List.map_cons, List.map_nil, List.mem_singleton] at hb
  subst hb
  exact (h.lt t ht).2
theorem sg_ps {T : List Tok} (hu : (T.map Tok.pos).Pairwise (· < ·)) {l : List Int} (h : Sg T 0 T.length l) : l.Nodup ∧ l.length ≤ T.length := by
  obtain ⟨_, ix, rfl, hp, hb⟩ := h
  have key : ∀ i j, i < j → j < T.length → (tokAt T i).pos < (tokAt T j).pos := by
    intro i j hij hj
    have hi := Nat.lt_trans hij hj
    have h1 := List.pairwise_iff_getElem.1 hu i j (by rw [List.length_map]; exact hi) (by rw [List.length_map]; exact hj) hij
    rw [List.getElem_map, List.getElem_map] at h1
    have e : ∀ k (hk : k < T.length), tokAt T k = T[k] := fun k hk => by simp [tokAt, List.getD, List.getElem?_eq_getElem hk]
    rw [e i hi, e j hj]; exact h1
  constructor
  · rw [List.Nodup, List.pairwise_map]
    refine hp.imp_of_mem fun {a b} _ hb2 hab => ?_
    have := key a b hab (hb b hb2).2
    omega
  · rw [List.length_map]
    have hnd : ix.Nodup := hp.imp fun h => by omega
    have hsub : ix ⊆ List.range T.length := fun x hx => List.mem_range.2 (hb x hx).2
    have hle : ∀ (l m : List Nat), l.Nodup → l ⊆ m → l.length ≤ m.length := by
      intro l
      induction l with
      | nil => intro m _ _; exact Nat.zero_le _
      | cons a l ih =>
        intro m hn hs
        have ha : a ∈ m := hs (by simp)
        have hn2 := List.nodup_cons.1 hn
        have := ih (m.erase a) hn2.2 (fun x hx => (List.mem_erase_of_ne (fun e => by subst e; exact hn2.1 hx)).2 (hs (by simp [hx])))
        rw [List.length_erase_of_mem ha] at this
        have := List.length_pos_of_mem ha
        simp only [List.length_cons]; omega
    have := hle _ _ hnd hsub
    rwa [List.length_range] at this
theorem lets_le : ∀ t : Tr, lets t ≤ (ps t).length := by
  intro t
  induction t with
  | nil => exact Nat.le_refl _
  | node b o a l r ihl ihr =>
    rw [lets_node, ps_len]
    by_cases h9 : a.tag = 9
    · rw [if_pos h9, if_neg (by omega), if_pos ⟨by omega, by rw [h9]; rfl⟩]; omega
    · rw [if_neg h9]; omega
end Go.Proofs.YtikffmloeifkpaaGreatDoor

/- Package names: what a program without a fault is. -/
namespace Go.Proofs.YtikffmloeifkpaaGreatDoor
open Go.RowKit Go.Lib Go.Deep Go.ChangeMaps Go.MapKept
variable {F : Ents} {its : List Tr}

def nPar : Tr → Nat
  | .nil => 0
  | .node _ _ _ l _ => lenV l
def parOf (t : Tr) (k : Nat) : Option Nat := ((kindOf 17 (elems t)).map nPar)[k]?
def naOf (t : Tr) : Nat := (kindOf 16 (elems t)).length
/-- A function whose names mean something. -/
def FnOk (par : Nat → Option Nat) (na : Nat) (e : Tr) : Prop := ∃ b o a l x y z p q, e = .node b o a l (.node x y z p q) ∧ a.tag = 17 ∧ z.tag = 18 ∧ Vd par na 12 p ∧ Vd par na 12 q ∧ lenV l ≤ 4
def ArOk (e : Tr) : Prop := ∃ b o a l r, e = .node b o a l r ∧ a.tag = 16 ∧ a.which < 6 ∧ 1 ≤ a.val ∧ a.val ≤ 64

theorem kindOf_toL (k : Nat) (L : Tr) : kindOf k L = (toL L).filter fun e => tagOf e == k := by
  induction L with
  | nil => rfl
  | node b o a e r _ ih =>
    show (if tagOf e = k then e :: kindOf k r else kindOf k r) = (e :: toL r).filter _
    by_cases h : tagOf e = k
    · rw [if_pos h, List.filter_cons_of_pos (by simpa using h), ih]
    · rw [if_neg h, List.filter_cons_of_neg (by simpa using h), ih]
theorem nPar_setW (e : Tr) (n : Int) : nPar (setW e n) = nPar e := by cases e <;> rfl
theorem kind_gaT : ∀ (L : Tr) (nA nF : Nat), Ws 18 L → (kindOf 17 (gaT L nA nF)).map nPar = (kindOf 17 L).map nPar ∧ (kindOf 16 (gaT L nA nF)).length = (kindOf 16 L).length := by
  intro L
  induction L with
  | nil => intro _ _ _; exact ⟨rfl, rfl⟩
  | node b o a e r _ ih =>
    intro nA nF hw
    obtain ⟨_, hwe, hwr⟩ := ws_rest (.inr (.inr (.inr (.inr rfl)))) hw
    obtain ⟨ht, _⟩ := item_tag hwe
    unfold gaT
    by_cases h : tagOf e = 16
    · rw [if_pos h]
      obtain ⟨i1, i2⟩ := ih (nA + 1) nF hwr
      constructor
      · show (if tagOf (setW e nA) = 17 then _ else _ : List Tr).map nPar = (if tagOf e = 17 then _ else _ : List Tr).map nPar
        rw [tag_setW, if_neg (by omega), if_neg (by omega)]; exact i1
      · show (if tagOf (setW e nA) = 16 then _ else _ : List Tr).length = (if tagOf e = 16 then _ else _ : List Tr).length
        rw [tag_setW, if_pos h, if_pos h, List.length_cons, List.length_cons, i2]
    · rw [if_neg h]
      obtain ⟨i1, i2⟩ := ih nA (nF + 1) hwr
      constructor
      · show (if tagOf (setW e nF) = 17 then _ else _ : List Tr).map nPar = (if tagOf e = 17 then _ else _ : List Tr).map nPar
        rw [tag_setW, if_pos (by omega), if_pos (by omega), List.map_cons, List.map_cons, nPar_setW, i1]
      · show (if tagOf (setW e nF) = 16 then _ else _ : List Tr).length = (if tagOf e = 16 then _ else _ : List Tr).length
        rw [tag_setW, if_neg h, if_neg h]; exact i2
/-- The arrays of a program are numbered in their order. -/
theorem arr_at : ∀ (L : Tr) (nA nF j : Nat) (e : Tr), Ws 18 L → (kindOf 16 (gaT L nA nF))[j]? = some e → whichT e = ((nA + j : Nat) : Int) := by
  intro L
  induction L with
  | nil => intro nA nF j e _ h; cases h
  | node b o a e0 r _ ih =>
    intro nA nF j e hw h
    obtain ⟨_, hwe, hwr⟩ := ws_rest (.inr (.inr (.inr (.inr rfl)))) hw
    obtain ⟨ht, hne⟩ := item_tag hwe
    unfold gaT at h
    by_cases h16 : tagOf e0 = 16
    · rw [if_pos h16] at h
      have h : (if tagOf (setW e0 nA) = 16 then setW e0 nA :: kindOf 16 (gaT r (nA + 1) nF) else kindOf 16 (gaT r (nA + 1) nF))[j]? = some e := h
      rw [tag_setW, if_pos h16] at h
      cases j with
      | zero =>
        simp only [List.getElem?_cons_zero, Option.some.injEq] at h
        rw [← h, whichT_setW hne]; simp
      | succ j =>
        simp only [List.getElem?_cons_succ] at h
        rw [ih _ _ _ _ hwr h]; congr 1; omega
    · rw [if_neg h16] at h
      have h : (if tagOf (setW e0 nF) = 16 then setW e0 nF :: kindOf 16 (gaT r nA (nF + 1)) else kindOf 16 (gaT r nA (nF + 1)))[j]? = some e := h
      rw [tag_setW, if_neg h16] at h
      exact ih _ _ _ _ hwr h

/-! What must hold where there is no fault. -/
theorem fifth_zero {s : Rs} {i : Nat} {p : Int} (h : (s.fifth i p).code = 0) : s.fifth i p = s ∧ i < 4 := by
  unfold Rs.fifth at h ⊢
  by_cases hi : 4 ≤ i
  · rw [if_pos hi] at h; exact absurd h (rfail_code (by decide))
  · rw [if_neg hi]; exact ⟨rfl, by omega⟩
theorem few_zero {s : Rs} {a : Nd} (h : (s.few a).code = 0) : s.few a = s := by
  unfold Rs.few at h ⊢
  by_cases hi : 8 ≤ a.which
  · rw [if_pos hi] at h; exact absurd h (rfail_code (by decide))
  · rw [if_neg hi]
theorem twice_zero {s : Rs} {a : Nd} {i : Nat} (h : (s.twice F a i).code = 0) : s.twice F a i = s := by
  unfold Rs.twice at h ⊢
  by_cases hi : (look a.name F).getD 0 = (i : Int)
  · rw [if_pos hi]
  · rw [if_neg hi] at h; exact absurd h (rfail_code (by decide))
theorem arr_zero {s : Rs} {a : Nd} (h : (s.arr a).code = 0) : s.code = 0 ∧ a.which < 6 ∧ 1 ≤ a.val ∧ a.val ≤ 64 := by
  unfold Rs.arr at h
  by_cases hb : badLen a = true
  · rw [if_pos hb] at h; exact absurd h (rfail_code (by decide))
  · rw [if_neg hb] at h
    unfold Rs.six at h
    by_cases hi : 6 ≤ a.which
    · rw [if_pos hi] at h; exact absurd h (rfail_code (by decide))
    · rw [if_neg hi] at h
      unfold badLen at hb
      simp only [Bool.or_eq_true, decide_eq_true_eq, not_or] at hb
      exact ⟨h, by omega, by omega, by omega⟩
theorem param_ok {s : Rs} {x : ByteArray} {p : Int} (hv : VarsOk s) (h : (s.param x p).code = 0) : VarsOk (s.param x p) ∧ (s.param x p).vars.length = s.vars.length + 1 ∧ s.code = 0 ∧ s.vars.length < 4 := by
  have h1 : (s.newVar x p 4).code = 0 := h
  obtain ⟨e, hl, hf⟩ := newVar_zero h1
  have hp : s.param x p = s.addVar x := by unfold Rs.param; rw [e]
  rw [hp] at h ⊢
  obtain ⟨k1, k2⟩ := look_len hv hl (by omega)
  exact ⟨k1, k2, h, by omega⟩
theorem parR_ok : ∀ (L : Tr) (s : Rs), VarsOk s → (parR L s).code = 0 → VarsOk (parR L s) ∧ (parR L s).vars.length = s.vars.length + lenL L ∧ s.code = 0 ∧ (s.vars.length ≤ 4 → s.vars.length + lenL L ≤ 4) := by
  intro L
  induction L with
  | nil => intro s hv h; exact ⟨hv, rfl, h, fun h => h⟩
  | node b o a e r _ ih =>
    intro s hv h
    have h : (parR r (s.param (nameOfT e) (nposOfT e))).code = 0 := h
    have hz : ∀ (L : Tr) (s : Rs), (parR L s).code = 0 → s.code = 0 := by
      intro L
      induction L with
      | nil => intro s h; exact h
      | node b o a e r _ ih =>
        intro s h
        have := ih _ h
        exact (show s.code = 0 by
          have h1 : (s.newVar (nameOfT e) (nposOfT e) 4).code = 0 := this
          rwa [(newVar_zero h1).1] at h1)
    obtain ⟨k1, k2, k3, k4⟩ := param_ok hv (hz r _ h)
    obtain ⟨j1, j2, j3, j4⟩ := ih _ k1 h
    refine ⟨j1, ?_, k3, fun _ => ?_⟩
    · show (parR r _).vars.length = s.vars.length + (lenL r + 1)
      omega
    · show s.vars.length + (lenL r + 1) ≤ 4
      have := j4 (by omega)
      omega
theorem whR_ok {par : Nat → Option Nat} {na : Nat} (hI : ItsOk F its par na) : ∀ (L : Tr) (i : Nat) (s : Rs), Ws 15 L → VarsOk s → (whR F its L i s).code = 0 → VarsOk (whR F its L i s) ∧ s.code = 0 ∧ Vd par na 12 (whT F its L i s) := by
  intro L
  induction L with
  | nil => intro i s _ hv h; exact ⟨hv, h, trivial⟩
  | node b o a e r _ ih =>
    intro i s hw hv h
    obtain ⟨h15, hwe, hwr⟩ := ws_rest (.inr (.inr (.inl rfl))) hw
    have hz : ∀ (L : Tr) (i : Nat) (s : Rs), (whR F its L i s).code = 0 → s.code = 0 := by
      intro L
      induction L with
      | nil => intro i s h; exact h
      | node b o a e r _ ih =>
        intro i s h
        have h1 := rsT_zero _ _ (ih _ _ h)
        rw [(fifth_zero h1).1] at h1
        exact rsT_zero _ _ h1
    have h : (whR F its r (i + 1) (rsT F its (sideR e) ((rsT F its (sideL e) s).fifth i (posOfT e)))).code = 0 := h
    have h1 := hz _ _ _ h
    have h2 := rsT_zero _ _ h1
    obtain ⟨e5, _⟩ := fifth_zero h2
    rw [e5] at h h1 h2
    cases e with
    | nil => exact absurd hwe (by unfold Ws nilOk; simp)
    | node b2 o2 a2 x y =>
      obtain ⟨_, sx, sy, hsig, hx, hy⟩ := hwe.parts
      have h7 : a2.tag = 7 := by
        by_cases h : a2.tag = 7
        · exact h
        · exfalso; simp [sig, h] at hsig
      rw [h7] at hsig
      cases hsig
      obtain ⟨v1, v2, v3⟩ := vd_any hI x 21 s hx h2 hv
      obtain ⟨w1, w2, w3⟩ := vd_any hI y 21 _ hy h1 v1
      obtain ⟨z1, _, z3⟩ := ih (i + 1) _ hwr w1 h
      have hwh : whT F its (.node b o a (.node b2 o2 a2 x y) r) i s = .node b o a (.node b2 o2 a2 (reT F its x s) (reT F its y (rsT F its x s))) (whT F its r (i + 1) (rsT F its y (rsT F its x s))) := by
        show BT.node b o a (withSides _ _ (reT F its y ((rsT F its x s).fifth i a2.pos))) (whT F its r (i + 1) (rsT F its y ((rsT F its x s).fifth i a2.pos))) = _
        rw [show (rsT F its x s).fifth i a2.pos = rsT F its x s from e5]; rfl
      have hwr2 : whR F its (.node b o a (.node b2 o2 a2 x y) r) i s = whR F its r (i + 1) (rsT F its y (rsT F its x s)) := by
        show whR F its r (i + 1) (rsT F its y ((rsT F its x s).fifth i a2.pos)) = _
        rw [show (rsT F its x s).fifth i a2.pos = rsT F its x s from e5]
      rw [hwh, hwr2]
      have f1 := v1.few
      have f2 := w1.few
      refine ⟨z1, rsT_zero _ _ h2, ⟨v3.mono f1, w3.mono f2, fun e => by omega, fun e => by omega, fun e => by omega⟩, z3, fun e => by omega, fun e => by omega, fun e => by omega⟩
theorem vd_withL {par : Nat → Option Nat} {na nv s : Nat} {p L : Tr} (hs : s = 3 ∨ s = 4 ∨ s = 5 ∨ s = 6 ∨ s = 8) (hw : Ws s p) (h : Vd par na nv L) : Vd par na nv (withL p L) := by
  rcases hw.lst hs with rfl | ⟨b, o, a, l, rfl, ht, _⟩
  · trivial
  · exact ⟨h, trivial, fun e => by omega, fun e => by omega, fun e => by omega⟩
theorem lenV_withL {s : Nat} {p L : Tr} (hs : s = 3 ∨ s = 4 ∨ s = 5 ∨ s = 6 ∨ s = 8) (hw : Ws s p) (h : lenL L = lenL (elems p)) : lenV (withL p L) = lenV p := by
  rcases hw.lst hs with rfl | ⟨b, o, a, l, rfl, ht, _⟩
  · rfl
  · exact h
/-- An item without a fault. -/
theorem itR_ok {par : Nat → Option Nat} {na : Nat} (hI : ItsOk F its par na) {e : Tr} {i : Nat} {s : Rs} (hw : Ws 7 e) (h : (itR F its e i s).code = 0) : s.code = 0 ∧ (tagOf e = 17 → FnOk par na (itT F its e i s)) ∧ (tagOf e = 16 → ArOk (itT F its e i s)) := by
  obtain ⟨b, o, a, l, r, rfl, ht⟩ := item_of hw
  rcases ht with ht | ht
  · have e1 : itR F its (.node b o a l r) i s = (s.twice F a i).arr a := if_pos ht
    rw [e1] at h
    obtain ⟨h1, h2, h3, h4⟩ := arr_zero h
    rw [twice_zero h1] at h1
    refine ⟨h1, fun e => by have : a.tag = 17 := e; omega, fun _ => ?_⟩
    rw [show itT F its (.node b o a l r) i s = .node b o a l r from if_pos ht]
    exact ⟨b, o, a, l, r, rfl, ht, h2, h3, h4⟩
  · obtain ⟨hl, x, y, z, p, q, rfl, hz, hp, hq⟩ := func_of hw ht
    have e1 : itR F its (.node b o a l (.node x y z p q)) i s = fnR F its (.node b o a l (.node x y z p q)) (s.twice F a i) := if_neg (by omega)
    rw [e1] at h
    have e2 : itT F its (.node b o a l (.node x y z p q)) i s = fnT F its (.node b o a l (.node x y z p q)) (s.twice F a i) := if_neg (by omega)
    rw [e2]
    generalize hs2 : s.twice F a i = s2 at h ⊢
    have h : (rsT F its q (fnS F its a l p s2).2).code = 0 := h
    have k1 := rsT_zero _ _ h
    have k2 : (whR F its (elems p) 0 (parR (elems l) (s2.few a).clear)).code = 0 := k1
    have vc : VarsOk (s2.few a).clear := ⟨(fun x i h => by cases h), by show 0 ≤ 12; omega⟩
    have hz2 : ∀ (L : Tr) (i : Nat) (s : Rs), (whR F its L i s).code = 0 → s.code = 0 := by
      intro L
      induction L with
      | nil => intro i s h; exact h
      | node b o a e r _ ih =>
        intro i s h
        have h1 := rsT_zero _ _ (ih _ _ h)
        rw [(fifth_zero h1).1] at h1
        exact rsT_zero _ _ h1
    obtain ⟨p1, p2, p3, p4⟩ := parR_ok (elems l) _ vc (hz2 _ _ _ k2)
    obtain ⟨w1, _, w3⟩ := whR_ok hI (elems p) 0 _ (hp.elems (.inr (.inr (.inl rfl)))) p1 k2
    obtain ⟨q1, q2, q3⟩ := vd_any hI q 4 _ hq h w1
    have c0 : (s2.few a).code = 0 := p3
    rw [few_zero c0] at c0
    rw [← hs2] at c0
    have c1 := twice_zero c0
    rw [c1] at c0
    refine ⟨c0, fun _ => ?_, fun e => by have : a.tag = 16 := e; omega⟩
    have f1 := q1.few
    refine ⟨b, o, _, _, x, y, z, _, _, rfl, ht, hz, vd_withL (.inr (.inr (.inl rfl))) hp w3, q3.mono f1, ?_⟩
    have hpl := parT_shape (elems l) (s2.few a).clear
    rw [lenV_withL (.inr (.inr (.inr (.inl rfl)))) hl hpl.1, lenV_elems]
    have := p4 (by show 0 ≤ 4; omega)
    have h0 : (s2.few a).clear.vars.length = 0 := rfl
    omega
theorem itsR_ok {par : Nat → Option Nat} {na : Nat} (hI : ItsOk F its par na) : ∀ (L : Tr) (i : Nat) (s : Rs), Ws 18 L → (itsR F its L i s).code = 0 → s.code = 0 ∧ (∀ e ∈ kindOf 17 (itsT F its L i s), FnOk par na e) ∧ (∀ e ∈ kindOf 16 (itsT F its L i s), ArOk e) := by
  intro L
  induction L with
  | nil => intro i s _ h; exact ⟨h, fun e h => (by cases h), fun e h => (by cases h)⟩
  | node b o a e0 r _ ih =>
    intro i s hw h
    obtain ⟨_, hwe, hwr⟩ := ws_rest (.inr (.inr (.inr (.inr rfl)))) hw
    obtain ⟨h1, h2, h3⟩ := ih _ _ hwr h
    obtain ⟨k1, k2, k3⟩ := itR_ok hI hwe h1
    have htag : tagOf (itT F its e0 i s) = tagOf e0 := by
      obtain ⟨_, _, _, b, o, a, l, r, a', l', r', e1, e2, e3, _⟩ := itT_kind (F := F) (its := its) i s hwe
      rw [e2, e1]; exact e3
    refine ⟨k1, fun e he => ?_, fun e he => ?_⟩
    · have he : e ∈ (if tagOf (itT F its e0 i s) = 17 then itT F its e0 i s :: kindOf 17 (itsT F its r (i + 1) (itR F its e0 i s)) else kindOf 17 (itsT F its r (i + 1) (itR F its e0 i s))) := he
      rw [htag] at he
      by_cases h17 : tagOf e0 = 17
      · rw [if_pos h17] at he
        rcases List.mem_cons.1 he with rfl | he
        · exact k2 h17
        · exact h2 e he
      · rw [if_neg h17] at he
        exact h2 e he
    · have he : e ∈ (if tagOf (itT F its e0 i s) = 16 then itT F its e0 i s :: kindOf 16 (itsT F its r (i + 1) (itR F its e0 i s)) else kindOf 16 (itsT F its r (i + 1) (itR F its e0 i s))) := he
      rw [htag] at he
      by_cases h16 : tagOf e0 = 16
      · rw [if_pos h16] at he
        rcases List.mem_cons.1 he with rfl | he
        · exact k3 h16
        · exact h3 e he
      · rw [if_neg h16] at he
        exact h3 e he
end Go.Proofs.YtikffmloeifkpaaGreatDoor
