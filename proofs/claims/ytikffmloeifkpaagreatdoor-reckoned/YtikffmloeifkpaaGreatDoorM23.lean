/- The program's contracts, part 23: each says what a function of the program does, for every argument that its premises name. -/
import Derived.Test.YtikffmloeifkpaaGreatDoorM22
import Derived.Test.YtikffmloeifkpaaGreatDoorM20
/- Package walk: a block. -/
namespace Go.Proofs.YtikffmloeifkpaaGreatDoor
open Go.RowKit Go.Lib Go.Deep Go.ChangeMaps Go.MapKept
variable {C : Cl} {vars : Nat → Int} {B pb rb fb d : Nat} {r : Rn} {w w' u : World} {value : Int} {al fl : List Tr}

theorem st_list {lens : Nat → Int} {t : Tr} (h : Ws 4 t) (m : Fm) : stW lens C t m = stW lens C (elems t) m := by
  rcases h.lst (.inr (.inl rfl)) with rfl | ⟨b, o, a, l, rfl, ht, _⟩
  · rfl
  · exact if_pos (.inl ht)

set_option maxRecDepth 100000 in
set_option maxHeartbeats 8000000 in
theorem block_x {t : Tr} (hwt : Ws 4 t) (hC : COk C) (hA : AllG (fun e => Ws 2 e ∧ GSt 201 B pb d C al fl valT e) (elems t)) : GSt 132 B pb d C al fl valT t := by
  intro rb fb vars value r w h hi
  obtain ⟨ao, cp, hvl⟩ := hwt.lstval (.inr (.inl rfl))
  have hlen := lenV_le (.inr (.inl rfl)) hwt
  have hwel := hwt.elems (.inr (.inl rfl))
  rw [st_list hwt, hvl]
  have HWL : Hid (Ws 4 t) := hwt
  have HWE : Hid (Ws 14 (elems t)) := hwel
  obtain ⟨F, hF⟩ : ∃ F, F = stW (lensOf al) C (elems t) ⟨true, vars, value, r⟩ := ⟨_, rfl⟩
  rw [← hF]
  have L0 : ∃ vars' value' r', F = stW (lensOf al) C (dropL 0 (elems t)) ⟨true, vars', value', r'⟩ ∧ XW B pb rb fb d al fl vars' value' r' w ∧ IsT w t ∧ Wy B rb fb w w := ⟨vars, value, r, hF, h, hi, Wy.refl _ _ _ _⟩
  have HMN : Hid (∀ e, Ws 2 e → ∀ m, Mo m.run (stW (lensOf al) C e m).run) := fun e he => (stW_mn hC _ e (Nat.le_refl _)).1 he
  clear hwt hwel hF h hi hC
  go_enter Tryz.func132, Tryz.ntmps132
  go_wp2_with fail
  go_loopg [9] (lenV t) (fun m v wr => ∃ i : Nat, v = .int .i64 i ∧ i ≤ lenV t ∧ lenV t ≤ i + m ∧ ∃ vars' value' r', F = stW (lensOf al) C (dropL i (elems t)) ⟨true, vars', value', r'⟩ ∧ XW B pb rb fb d al fl vars' value' r' wr ∧ IsT wr t ∧ Wy B rb fb w wr)
  case atStart => exact ⟨0, rfl, Nat.zero_le _, by omega, L0⟩
  case round =>
    clear L0
    obtain ⟨i, rfl, hle, hm, vars', value', r', hF, X, hiT, hy⟩ := hrel
    by_cases hlt : i < lenV t
    · have hltI : (i : Int) < (lenV t : Int) := by omega
      obtain ⟨b2, o2, a2, e2, r2, hd, hd2⟩ := dropL_lt i (elems t) (by rw [← lenV_elems]; exact hlt)
      have hAi := AllG.drop i _ hA
      rw [hd] at hAi hF
      obtain ⟨h15, ⟨hE, hG⟩, _⟩ := hAi
      obtain ⟨gg, rfl, hcell⟩ := lst_cell (H := 0) (.inr (.inl rfl)) HWL.out hiT (Fr.refl 0 F0 wr) F0.body hvl hd (by
        cases e2 with
        | nil => exact absurd hE (by unfold Ws nilOk; omega)
        | node b o a l r =>
          have := stmt_tag hE
          exact ⟨b, o, a, l, r, rfl, by omega, by omega⟩)
      obtain ⟨u, p, hve⟩ := hE.val (.inr (.inr (.inl rfl)))
      rw [hve] at hcell
      have e2T : ∀ W, IsT W t → IsT W e2 := fun W hW => by
        have h1 : IsT W (elems t) := by
          cases t with
          | nil => trivial
          | node => exact hW.1
        have h2 := isT_drop i _ h1
        rw [hd] at h2
        exact h2.1
      have f0 := X.fm.cells.1
      have hbu := burn_any wr X.rn
      have hF : F = if r'.burns then (if (stW (lensOf al) C e2 ⟨true, vars', value', r'.burn⟩).on then stW (lensOf al) C r2 (stW (lensOf al) C e2 ⟨true, vars', value', r'.burn⟩) else stW (lensOf al) C e2 ⟨true, vars', value', r'.burn⟩) else ⟨false, vars', value', r'.burn⟩ := by
        rw [hF]
        conv => lhs; unfold stW
        rw [if_neg (by omega), if_pos h15]
      have HX : Hid _ := X
      have HIT : Hid _ := hiT
      have HY : Hid _ := hy
      have HE2 : Hid _ := e2T
      have HD2 : Hid (dropL (i + 1) (elems t) = r2) := hd2
      cases hb : r'.burns
      · rw [if_neg (by rw [hb]; decide)] at hF
        rw [hb] at hbu
        have HF : Hid _ := hF
        clear hF X hiT hy hb hG hE hd hd2 e2T h15
        go_wp2_with fail
        refine hbu.mono ?_
        rintro e W2 ⟨rfl, h2, x2⟩
        have fin : Hid (PostSt B pb rb fb F w (.returned (.bool false)) W2) := by
          rw [Hid, HF.out]
          exact ⟨rfl, h2, HX.out.fm.wx x2 (HX.out.fm.ne HX.out.rn), HY.out.trans x2.y⟩
        clear h2 x2
        go_wp2
        go_ret
        exact fin.out
      · rw [if_pos hb] at hF
        rw [hb] at hbu
        have hbm := Mn.burn r'
        have HMM : Hid (Mn r' (stW (lensOf al) C e2 ⟨true, vars', value', r'.burn⟩).run) := Mo.burnt hb (HMN.out e2 hE ⟨true, vars', value', r'.burn⟩)
        have HGG : Hid (∀ W, XW B pb rb fb d al fl vars' value' r'.burn W → IsT W e2 → Calls Tryz.prog 201 #[.pointer (some ⟨fb, 0, none⟩), .iface u (.pointer (some p))] W (PostSt B pb rb fb (stW (lensOf al) C e2 ⟨true, vars', value', r'.burn⟩) W)) := fun W hW h2 => by
          have := hG rb fb vars' value' _ W hW h2
          rw [hve] at this
          exact this
        generalize stW (lensOf al) C e2 ⟨true, vars', value', r'.burn⟩ = M at *
        obtain ⟨on, mv, mx, mr⟩ := M
        dsimp only at hF
        clear X hiT hy hb hG hE hd hd2 e2T h15 hve
        cases on
        · rw [if_neg (by decide)] at hF
          have HF : Hid _ := hF
          clear hF
          go_wp2_with fail
          refine hbu.mono ?_
          rintro e W2 ⟨rfl, h2, x2⟩
          have hcall := HGG.out W2 (HX.out.wx h2 x2 hbm) (HE2.out W2 (IsT.wx HX.out.rn x2 HIT.out))
          have HY2 : Hid _ := HY.out.trans x2.y
          clear h2 x2 hbu
          go_wp2_with fail
          refine hcall.mono ?_
          rintro e W4 ⟨rfl, h4, f4, y4⟩
          have fin : Hid (PostSt B pb rb fb F w (.returned (.bool false)) W4) := by
            rw [Hid, HF.out]
            exact ⟨rfl, h4, f4, HY2.out.trans y4⟩
          clear h4 f4 y4
          go_wp2
          go_ret
          exact fin.out
        · rw [if_pos rfl] at hF
          have HF : Hid _ := hF
          clear hF
          go_wp2_with fail
          refine hbu.mono ?_
          rintro e W2 ⟨rfl, h2, x2⟩
          have X2 := HX.out.wx h2 x2 hbm
          have i2 := IsT.wx HX.out.rn x2 HIT.out
          have hcall := HGG.out W2 X2 (HE2.out W2 i2)
          have HX2 : Hid _ := X2
          have HI2 : Hid _ := i2
          have HX0 : Hid _ := x2
          clear h2 x2 hbu X2 i2
          go_wp2_with fail
          refine hcall.mono ?_
          rintro e W4 ⟨rfl, h4, f4, y4⟩
          obtain ⟨m, rfl⟩ : ∃ m, gk = m + 1 := ⟨gk - 1, by omega⟩
          have fin : ∃ i' : Nat, Value.int .i64 ((i : Int) + 1) = .int .i64 i' ∧ i' ≤ lenV t ∧ lenV t ≤ i' + m ∧ ∃ vars' value' r', F = stW (lensOf al) C (dropL i' (elems t)) ⟨true, vars', value', r'⟩ ∧ XW B pb rb fb d al fl vars' value' r' W4 ∧ IsT W4 t ∧ Wy B rb fb w W4 :=
            ⟨i + 1, by simp, by omega, by omega, mv, mx, mr, by rw [HD2.out]; exact HF.out, ⟨h4, f4, HX2.out.pg.wy HX2.out.rn HX2.out.fm y4, HX.out.bd.mn HMM.out⟩, IsT.wy HX2.out.rn HX2.out.fm y4 HI2.out, (HY.out.trans HX0.out.y).trans y4⟩
          clear h4 f4 y4
          go_wp2
          go_roundg m
          case rel => exact fin
          case measure => omega
    · have hltI : ¬ (i : Int) < (lenV t : Int) := by omega
      have fin : Hid (PostSt B pb rb fb F w (.returned (.bool true)) wr) := by
        rw [Hid, hF, show i = lenL (elems t) by rw [← lenV_elems]; omega, dropL_end]
        exact ⟨rfl, X.rn, X.fm, hy⟩
      clear X hiT hy hF
      go_wp2
      go_ret
      exact fin.out
end Go.Proofs.YtikffmloeifkpaaGreatDoor

/- Package walk: a statement. -/
namespace Go.Proofs.YtikffmloeifkpaaGreatDoor
open Go.RowKit Go.Lib Go.Deep Go.ChangeMaps Go.MapKept
variable {C : Cl} {vars : Nat → Int} {B pb rb fb d : Nat} {r : Rn} {w w' u : World} {value : Int} {al fl : List Tr}

theorem FmW.drew (h : FmW rb fb vars value w) : FmW rb fb vars value w.drew := h
theorem XW.drew (h : XW B pb rb fb d al fl vars value r w) : XW B pb rb fb d al fl vars value r w.drew := ⟨h.rn.drew, h.fm.drew, h.pg.drew, h.bd⟩

theorem RnW.frame (h : RnW B pb rb r w) (hf : FmW rb fb vars value w) (o : Nat) (v : Value) : RnW B pb rb r (w.setCell ⟨fb, o, none⟩ v) := by
  obtain ⟨cs, vO, hc, h1, h2⟩ := h.ex
  obtain ⟨c3, hc3, _⟩ := hf
  exact ⟨⟨cs, vO, (Below.heap_setCell _ _ _ _ (ne_typ hc hc3 (by decide))).trans hc, h1, own_move h2 (fun k hk => by
    obtain ⟨⟨c, hck⟩, _⟩ := own_typ h2 hk
    exact Below.heap_setCell _ _ _ _ (ne_typ hck hc3 (by decide)))⟩, h.ge, h.few⟩

set_option maxRecDepth 100000 in
set_option maxHeartbeats 8000000 in
/-- A variable is set. -/
theorem stmt_x9 {b o : Nat} {a : Nd} {l q : Tr} (ht : a.tag = 9) (hC : COk C) (hv : 0 ≤ a.which ∧ a.which < 12) (hl : Ws 0 l ∧ GX 200 B pb d C al fl valT l) : GSt 201 B pb d C al fl valT (.node b o a l q) := by
  intro rb fb vars value r w h hi
  have hval : valT (.node b o a l q) = .iface (ityp a.tag) (.pointer (some ⟨b, 0, none⟩)) := if_neg (by omega)
  rw [hval]
  have t1 := fun u v => ta_set u v w
  obtain ⟨hwl, hgl⟩ := hl
  obtain ⟨u, p, hvl⟩ := hwl.val (.inl rfl)
  obtain ⟨k, hk⟩ : ∃ k : Nat, a.which = k := ⟨a.which.toNat, by omega⟩
  have hk12 : k < 12 := by omega
  have hkI : 0 ≤ (k : Int) ∧ (k : Int) < 12 := by omega
  have cellsO : ∀ W : World, Own W b a l q → W.cell? ⟨b, 2, none⟩ = some (.int .i64 (k : Int)) ∧ W.cell? ⟨b, 3, none⟩ = some (.iface u (.pointer (some p))) := fun W ho => by
    obtain ⟨cs, hc, hn, h3, _⟩ := own_tag ho (n := 9) ht
    exact ⟨by rw [cell_of_row _ _ _ _ _ _ hc, ← hk]; exact hn.2.2, by rw [cell_of_row _ _ _ _ _ _ hc, ← hvl]; exact h3⟩
  have hX : stW (lensOf al) C (.node b o a l q) ⟨true, vars, value, r⟩ = ⟨true, upd vars k (hd (exW (lensOf al) C vars l r).1), value, (exW (lensOf al) C vars l r).2⟩ := by
    conv => lhs; unfold stW
    rw [if_neg (by omega), if_neg (by omega), if_pos ht, hk, Int.toNat_natCast]
  rw [hX, show ityp a.tag = 326 by rw [ht]; rfl]
  obtain ⟨m2, m3⟩ := cellsO w hi.2.2
  have hid : IsT w.drew (.node b o a l q) := IsT.wx h.rn (Wx.refl B rb w).drew hi
  have hcall := hgl rb fb vars value r w.drew h.drew hid.1
  rw [hvl] at hcall
  have hmn := exW_mn (lens := lensOf al) (vars := vars) hC l r
  generalize exW (lensOf al) C vars l r = x at *
  obtain ⟨xl, r2⟩ := x
  dsimp only at *
  generalize hd xl = V at *
  have HH : Hid (XW B pb rb fb d al fl vars value r w) := h
  have HI : Hid (IsT w.drew (.node b o a l q)) := hid
  have HO : Hid _ := cellsO
  have FIN : Hid (∀ W, RnW B pb rb r2 W → FmW rb fb vars value W → Wx B rb w.drew W → PostSt B pb rb fb ⟨true, upd vars k V, value, r2⟩ w (.returned (.bool true)) (W.setCell ⟨fb, 1 + k, none⟩ (.int .i64 V))) := fun W h2 f2 x2 => by
    rw [show 1 + k = k + 1 by omega]
    exact ⟨rfl, h2.frame f2 _ _, f2.setVar hk12 V, ((Wx.refl B rb w).drew.trans x2).y.set _ _⟩
  have hbf : b ≠ fb := by
    obtain ⟨cs, hc, _⟩ := own_tag hi.2.2 (n := 9) ht
    obtain ⟨c3, hc3, _⟩ := h.fm
    exact ne_typ hc hc3 (by decide)
  clear h hi hid cellsO hgl hwl hX hval hk hv ht hvl
  go_enter Tryz.func201, Tryz.ntmps201
  go_wp2_with fail
  go_region_held3 (fun w' => w'.cell? ⟨b, 2, none⟩ = some (.int .i64 k) ∧ w'.cell? ⟨b, 3, none⟩ = some (.iface u (.pointer (some p))))
    (first
      | (refine ⟨?_, ?_⟩ <;> assumption)
      | (exact ⟨(World.cell?_of_block (Below.heap_setCell _ _ _ _ hbf)).trans p2, (World.cell?_of_block (Below.heap_setCell _ _ _ _ hbf)).trans p3⟩)
      | go_keep)
    ((refine step_call rfl 200 #[.pointer (some ⟨fb, 0, none⟩), .iface u (.pointer (some p))] _ (by go_simp) hcall ?_; rintro e W4 ⟨rfl, h4, x4⟩; refine ⟨_, rfl, ?_⟩; have i4 : IsT W4 (.node b o a l q) := IsT.wx HH.out.rn.drew x4 HI.out; obtain ⟨p2, p3⟩ := HO.out W4 i4.2.2; have f4 := HH.out.fm.drew.wx x4 (HH.out.fm.ne HH.out.rn); have HF4 : Hid _ := FIN.out W4 h4 f4 x4; obtain ⟨_, _, mv, mz⟩ := f4.cells; have mk := mv k hk12; rw [Nat.add_comm] at mk; clear h4 x4 i4 f4 mv))
  all_goals go_wp2
  all_goals go_ret
  all_goals exact ⟨rfl, HF4.out.2⟩

set_option maxRecDepth 100000 in
set_option maxHeartbeats 8000000 in
/-- A number is stored in an array. -/
theorem stmt_x10 {b o : Nat} {a : Nd} {l q : Tr} (ht : a.tag = 10) (hC : COk C) (hk : 0 ≤ a.which ∧ a.which < al.length) (hl : Ws 0 l ∧ GX 200 B pb d C al fl valT l) (hq : Ws 0 q ∧ GX 200 B pb d C al fl valT q) : GSt 201 B pb d C al fl valT (.node b o a l q) := by
  intro rb fb vars value r w h hi
  have hval : valT (.node b o a l q) = .iface (ityp a.tag) (.pointer (some ⟨b, 0, none⟩)) := if_neg (by omega)
  rw [hval]
  have t1 := fun u v => ta_set u v w
  have t2 := fun u v => ta_store u v w
  have hX : stW (lensOf al) C (.node b o a l q) ⟨true, vars, value, r⟩ = ⟨true, vars, value, stoW (lensOf al) a.which (hd (exW (lensOf al) C vars l r).1) (hd (exW (lensOf al) C vars q (exW (lensOf al) C vars l r).2).1) a.site (exW (lensOf al) C vars q (exW (lensOf al) C vars l r).2).2⟩ := by
    conv => lhs; unfold stW
    rw [if_neg (by omega), if_neg (by omega), if_neg (by omega), if_pos ht]
    unfold stoW
    split <;> rfl
  rw [hX, show ityp a.tag = 329 by rw [ht]; rfl]
  have hcall := store_x ht hC hk hl hq vars value r w h hi
  have HF : Hid (FmW rb fb vars value w ∧ fb ≠ rb) := ⟨h.fm, h.fm.ne h.rn⟩
  generalize stoW (lensOf al) a.which (hd (exW (lensOf al) C vars l r).1) (hd (exW (lensOf al) C vars q (exW (lensOf al) C vars l r).2).1) a.site (exW (lensOf al) C vars q (exW (lensOf al) C vars l r).2).2 = r3 at *
  clear h hi hX hval hl hq ht hk
  go_enter Tryz.func201, Tryz.ntmps201
  go_wp2_with fail
  refine hcall.mono ?_
  rintro e W2 ⟨rfl, h2, x2⟩
  have fin : Hid (PostSt B pb rb fb ⟨true, vars, value, r3⟩ w (.returned (.bool true)) W2) := ⟨rfl, h2, HF.out.1.wx x2 HF.out.2, x2.y⟩
  clear h2 x2
  go_wp2
  go_ret
  exact fin.out

set_option maxRecDepth 100000 in
set_option maxHeartbeats 8000000 in
/-- A condition, and one of two blocks. -/
theorem stmt_x11 {b o : Nat} {a : Nd} {l : Tr} {x y : Nat} {z : Nd} {p q : Tr} (ht : a.tag = 11) (hC : COk C) (hl : Ws 1 l ∧ GB 257 B pb d C al fl valT l) (hp : Ws 4 p ∧ GSt 132 B pb d C al fl valT p) (hq : Ws 4 q ∧ GSt 132 B pb d C al fl valT q) : GSt 201 B pb d C al fl valT (.node b o a l (.node x y z p q)) := by
  intro rb fb vars value r w h hi
  have hval : valT (.node b o a l (.node x y z p q)) = .iface (ityp a.tag) (.pointer (some ⟨b, 0, none⟩)) := if_neg (by omega)
  rw [hval]
  have t1 := fun u v => ta_set u v w
  have t2 := fun u v => ta_store u v w
  have t3 := fun u v => ta_if u v w
  obtain ⟨hwl, hgl⟩ := hl
  obtain ⟨hwp, hgp⟩ := hp
  obtain ⟨hwq, hgq⟩ := hq
  obtain ⟨u, pp, hvl⟩ := hwl.val (.inr (.inl rfl))
  obtain ⟨ao, cp, hvp⟩ := hwp.lstval (.inr (.inl rfl))
  obtain ⟨ao2, cp2, hvq⟩ := hwq.lstval (.inr (.inl rfl))
  have own2 : ∀ w', Own w' b a l (.node x y z p q) → w'.cell? ⟨b, 0, none⟩ = some (.iface u (.pointer (some pp))) ∧ w'.cell? ⟨b, 1, none⟩ = some (.slice ao (lenV p) cp) ∧ w'.cell? ⟨b, 2, none⟩ = some (.slice ao2 (lenV q) cp2) := by
    intro w' ho
    obtain ⟨cs, hc, h0, x', y', z', p', q', e, h1, h2⟩ := own_tag ho (n := 11) ht
    simp only [BT.node.injEq] at e
    obtain ⟨rfl, rfl, rfl, rfl, rfl⟩ := e
    exact ⟨by rw [cell_of_row _ _ _ _ _ _ hc, ← hvl]; exact h0, by rw [cell_of_row _ _ _ _ _ _ hc, ← hvp]; exact h1, by rw [cell_of_row _ _ _ _ _ _ hc, ← hvq]; exact h2⟩
  have hX : stW (lensOf al) C (.node b o a l (.node x y z p q)) ⟨true, vars, value, r⟩ = if (cdW (lensOf al) C vars l r).1 then stW (lensOf al) C p ⟨true, vars, value, (cdW (lensOf al) C vars l r).2⟩ else stW (lensOf al) C q ⟨true, vars, value, (cdW (lensOf al) C vars l r).2⟩ := by
    conv => lhs; unfold stW
    rw [if_neg (by omega), if_neg (by omega), if_neg (by omega), if_neg (by omega), if_pos ht]
  rw [hX, show ityp a.tag = 332 by rw [ht]; rfl]
  have hcall := hgl rb fb vars value r w h hi.1
  rw [hvl] at hcall
  have hmn := cdW_mn (lens := lensOf al) (vars := vars) hC l r
  have HH : Hid (XW B pb rb fb d al fl vars value r w) := h
  have HI : Hid (IsT w (.node b o a l (.node x y z p q))) := hi
  obtain ⟨m0, _, _⟩ := own2 w hi.2.2
  have HO : Hid _ := own2
  have HP : Hid (∀ r' W, XW B pb rb fb d al fl vars value r' W → IsT W p → Calls Tryz.prog 132 #[.pointer (some ⟨fb, 0, none⟩), .slice ao (lenV p) cp] W (PostSt B pb rb fb (stW (lensOf al) C p ⟨true, vars, value, r'⟩) W)) := fun r' W hW h2 => by
    have := hgp rb fb vars value _ W hW h2
    rw [hvp] at this
    exact this
  have HQ : Hid (∀ r' W, XW B pb rb fb d al fl vars value r' W → IsT W q → Calls Tryz.prog 132 #[.pointer (some ⟨fb, 0, none⟩), .slice ao2 (lenV q) cp2] W (PostSt B pb rb fb (stW (lensOf al) C q ⟨true, vars, value, r'⟩) W)) := fun r' W hW h2 => by
    have := hgq rb fb vars value _ W hW h2
    rw [hvq] at this
    exact this
  generalize cdW (lensOf al) C vars l r = x at *
  obtain ⟨c, r2⟩ := x
  dsimp only at *
  clear h hi own2 hgl hgp hgq hX hval ht hvl hvp hvq
  cases c
  · rw [if_neg (by decide)]
    go_enter Tryz.func201, Tryz.ntmps201
    go_wp2_with fail
    refine hcall.mono ?_
    rintro e W2 ⟨rfl, h2, x2⟩
    have i2 := IsT.wx HH.out.rn x2 HI.out
    obtain ⟨_, _, k2⟩ := HO.out W2 i2.2.2
    have hcall2 := HQ.out _ W2 (HH.out.wx h2 x2 hmn) i2.2.1.2.1
    have HX2 : Hid _ := x2
    generalize stW (lensOf al) C q ⟨true, vars, value, r2⟩ = M at *
    clear h2 x2 i2 hcall
    go_wp2_with fail
    refine hcall2.mono ?_
    rintro e W3 ⟨rfl, h3, f3, y3⟩
    have fin : Hid (PostSt B pb rb fb M w (.returned (.bool M.on)) W3) := ⟨rfl, h3, f3, HX2.out.y.trans y3⟩
    clear h3 f3 y3
    go_wp2
    go_ret
    exact fin.out
  · rw [if_pos rfl]
    go_enter Tryz.func201, Tryz.ntmps201
    go_wp2_with fail
    refine hcall.mono ?_
    rintro e W2 ⟨rfl, h2, x2⟩
    have i2 := IsT.wx HH.out.rn x2 HI.out
    obtain ⟨_, k1, _⟩ := HO.out W2 i2.2.2
    have hcall2 := HP.out _ W2 (HH.out.wx h2 x2 hmn) i2.2.1.1
    have HX2 : Hid _ := x2
    generalize stW (lensOf al) C p ⟨true, vars, value, r2⟩ = M at *
    clear h2 x2 i2 hcall
    go_wp2_with fail
    refine hcall2.mono ?_
    rintro e W3 ⟨rfl, h3, f3, y3⟩
    have fin : Hid (PostSt B pb rb fb M w (.returned (.bool M.on)) W3) := ⟨rfl, h3, f3, HX2.out.y.trans y3⟩
    clear h3 f3 y3
    go_wp2
    go_ret
    exact fin.out

set_option maxRecDepth 100000 in
set_option maxHeartbeats 8000000 in
/-- A while. -/
theorem stmt_x12 {b o : Nat} {a : Nd} {l q : Tr} (ht : a.tag = 12) (hG : GSt 258 B pb d C al fl ptrT (.node b o a l q)) : GSt 201 B pb d C al fl valT (.node b o a l q) := by
  intro rb fb vars value r w h hi
  have hval : valT (.node b o a l q) = .iface (ityp a.tag) (.pointer (some ⟨b, 0, none⟩)) := if_neg (by omega)
  rw [hval]
  have t1 := fun u v => ta_set u v w
  have t2 := fun u v => ta_store u v w
  have t3 := fun u v => ta_if u v w
  have t4 := fun u v => ta_while u v w
  rw [show ityp a.tag = 338 by rw [ht]; rfl]
  have hcall := hG rb fb vars value r w h hi
  have hcall : Calls Tryz.prog 258 #[.pointer (some ⟨fb, 0, none⟩), .pointer (some ⟨b, 0, none⟩)] w _ := hcall
  generalize stW (lensOf al) C (.node b o a l q) ⟨true, vars, value, r⟩ = M at *
  clear h hi hval ht hG
  go_enter Tryz.func201, Tryz.ntmps201
  go_wp2_with fail
  refine hcall.mono ?_
  rintro e W3 ⟨rfl, h3, f3, y3⟩
  have fin : Hid (PostSt B pb rb fb M w (.returned (.bool M.on)) W3) := ⟨rfl, h3, f3, y3⟩
  clear h3 f3 y3
  go_wp2
  go_ret
  exact fin.out

set_option maxRecDepth 100000 in
set_option maxHeartbeats 8000000 in
/-- The function's value; a number told. -/
theorem stmt_x13 {b o : Nat} {a : Nd} {l q : Tr} (ht : a.tag = 13) (hl : Ws 0 l ∧ GX 200 B pb d C al fl valT l) : GSt 201 B pb d C al fl valT (.node b o a l q) := by
  intro rb fb vars value r w h hi
  have hval : valT (.node b o a l q) = .iface (ityp a.tag) (.pointer (some ⟨b, 0, none⟩)) := if_neg (by omega)
  rw [hval]
  have t1 := fun u v => ta_set u v w
  have t2 := fun u v => ta_store u v w
  have t3 := fun u v => ta_if u v w
  have t4 := fun u v => ta_while u v w
  have t5 := fun u v => ta_return u v w
  obtain ⟨hwl, hgl⟩ := hl
  obtain ⟨u, p, hvl⟩ := hwl.val (.inl rfl)
  have m0 : w.cell? ⟨b, 0, none⟩ = some (.iface u (.pointer (some p))) := by
    obtain ⟨cs, hc, h0⟩ := own_tag hi.2.2 (n := 13) ht
    rw [cell_of_row _ _ _ _ _ _ hc, ← hvl]; exact h0
  have hX : stW (lensOf al) C (.node b o a l q) ⟨true, vars, value, r⟩ = ⟨false, vars, hd (exW (lensOf al) C vars l r).1, (exW (lensOf al) C vars l r).2⟩ := by
    conv => lhs; unfold stW
    rw [if_neg (by omega), if_neg (by omega), if_neg (by omega), if_neg (by omega), if_neg (by omega), if_neg (by omega), if_pos ht]
  rw [hX, show ityp a.tag = 341 by rw [ht]; rfl]
  have hcall := hgl rb fb vars value r w h hi.1
  rw [hvl] at hcall
  generalize exW (lensOf al) C vars l r = x at *
  obtain ⟨xl, r2⟩ := x
  dsimp only at *
  generalize hd xl = V at *
  have HF : Hid (FmW rb fb vars value w ∧ fb ≠ rb) := ⟨h.fm, h.fm.ne h.rn⟩
  clear h hi hgl hX hval ht hvl
  go_enter Tryz.func201, Tryz.ntmps201
  go_wp2_with fail
  refine hcall.mono ?_
  rintro e W2 ⟨rfl, h2, x2⟩
  have f2 := HF.out.1.wx x2 HF.out.2
  obtain ⟨_, v2, _, z2⟩ := f2.cells
  have fin : Hid (PostSt B pb rb fb ⟨false, vars, V, r2⟩ w (.returned (.bool false)) (W2.setCell ⟨fb, 13, none⟩ (.int .i64 V))) := ⟨rfl, h2.frame f2 _ _, f2.setValue V, x2.y.set _ _⟩
  clear h2 x2 f2
  go_wp2
  go_ret
  exact fin.out

set_option maxRecDepth 100000 in
set_option maxHeartbeats 8000000 in
theorem stmt_x14 {b o : Nat} {a : Nd} {l q : Tr} (ht : a.tag = 14) (hC : COk C) (hl : Ws 0 l ∧ GX 200 B pb d C al fl valT l) : GSt 201 B pb d C al fl valT (.node b o a l q) := by
  intro rb fb vars value r w h hi
  have hval : valT (.node b o a l q) = .iface (ityp a.tag) (.pointer (some ⟨b, 0, none⟩)) := if_neg (by omega)
  rw [hval]
  have t1 := fun u v => ta_set u v w
  have t2 := fun u v => ta_store u v w
  have t3 := fun u v => ta_if u v w
  have t4 := fun u v => ta_while u v w
  have t5 := fun u v => ta_return u v w
  have t6 := fun u v => ta_out u v w
  obtain ⟨hwl, hgl⟩ := hl
  obtain ⟨u, p, hvl⟩ := hwl.val (.inl rfl)
  have m0 : w.cell? ⟨b, 0, none⟩ = some (.iface u (.pointer (some p))) := by
    obtain ⟨cs, hc, h0⟩ := own_tag hi.2.2 (n := 14) ht
    rw [cell_of_row _ _ _ _ _ _ hc, ← hvl]; exact h0
  have hX : stW (lensOf al) C (.node b o a l q) ⟨true, vars, value, r⟩ = ⟨true, vars, value, (exW (lensOf al) C vars l r).2.out (hd (exW (lensOf al) C vars l r).1)⟩ := by
    conv => lhs; unfold stW
    rw [if_neg (by omega), if_neg (by omega), if_neg (by omega), if_neg (by omega), if_neg (by omega), if_neg (by omega), if_neg (by omega), if_pos ht]
  rw [hX, show ityp a.tag = 344 by rw [ht]; rfl]
  have hcall := hgl rb fb vars value r w h hi.1
  rw [hvl] at hcall
  have hmn := exW_mn (lens := lensOf al) (vars := vars) hC l r
  generalize exW (lensOf al) C vars l r = x at *
  obtain ⟨xl, r2⟩ := x
  dsimp only at *
  generalize hd xl = V at *
  have HH : Hid (XW B pb rb fb d al fl vars value r w) := h
  clear h hi hgl hX hval ht hvl
  go_enter Tryz.func201, Tryz.ntmps201
  go_wp2_with fail
  refine hcall.mono ?_
  rintro e W2 ⟨rfl, h2, x2⟩
  have X2 := HH.out.wx h2 x2 hmn
  have hcall2 := out_x V W2 X2
  have HX2 : Hid _ := X2
  have Hx2 : Hid _ := x2
  generalize r2.out V = r3 at *
  clear h2 x2 X2 hcall
  go_wp2_with fail
  refine hcall2.mono ?_
  rintro e W3 ⟨rfl, h3, x3⟩
  have fin : Hid (PostSt B pb rb fb ⟨true, vars, value, r3⟩ w (.returned (.bool true)) W3) := ⟨rfl, h3, HX2.out.fm.wx x3 (HX2.out.fm.ne HX2.out.rn), (Hx2.out.trans x3).y⟩
  clear h3 x3
  go_wp2
  go_ret
  exact fin.out
end Go.Proofs.YtikffmloeifkpaaGreatDoor

/- Package walk: enter, all of it; a call, plainly. -/
namespace Go.Proofs.YtikffmloeifkpaaGreatDoor
open Go.RowKit Go.Lib Go.Deep Go.ChangeMaps Go.MapKept
variable {C : Cl} {vars : Nat → Int} {B pb rb fb d : Nat} {r : Rn} {w w' u : World} {value : Int} {al fl : List Tr} {lens : Nat → Int}

/-- A function is entered, to a depth. -/
def enD (lens : Nat → Int) (fl : List Tr) : Nat → Tr → (Nat → Int) → Rn → Int × Rn
  | 0, e, vars, r => enW (fun _ m => m) e vars r
  | d + 1, e, vars, r => enW (stW lens (clW lens fl d)) e vars r
theorem clW_en (k : Int) (l : List Int) (s : Int) (r : Rn) : clW lens fl d k l s r = enD lens fl d (fl.getD k.toNat .nil) (args0 l) (if tkW (args0 l) (whereOf (fl.getD k.toNat .nil)) then r else r.trap s) := by cases d <;> rfl
def PostE (B pb rb fb : Nat) (x : Int × Rn) (w : World) : Ending → World → Prop := fun e w' => e = .returned (.int .i64 x.1) ∧ RnW B pb rb x.2 w' ∧ Wy B rb fb w w'
/-- What is asked of a function that is entered. -/
def GE (B pb d : Nat) (al fl : List Tr) (e : Tr) : Prop :=
  ∀ rb fb cb vars r w, XW B pb rb fb d al fl vars 0 r w → IsT w (bodyOf e) → At w cb 105 (fun cs => cs[5]? = some (valT (bodyOf e))) → Calls Tryz.prog 79 #[.pointer (some ⟨fb, 0, none⟩), .pointer (some ⟨cb, 0, none⟩)] w (PostE B pb rb fb (enD (lensOf al) fl d e vars r) w)
theorem enW_stop {Bd : Tr → Fm → Fm} {e : Tr} {r0 : Rn} (hr0 : r0 = (if r.calls = 60 then r.stop 4 else r)) (hb : ({ r0 with calls := r.calls + 1 } : Rn).burns = false) : enW Bd e vars r = (0, { ({ r0 with calls := r.calls + 1 } : Rn).burn with calls := ({ r0 with calls := r.calls + 1 } : Rn).burn.calls - 1 }) := by
  unfold enW
  dsimp only
  rw [← hr0, if_neg (by rw [hb]; decide)]
theorem enW_go {Bd : Tr → Fm → Fm} {e : Tr} (h60 : r.calls ≠ 60) (hb : ({ r with calls := r.calls + 1 } : Rn).burns = true) : enW Bd e vars r = ((Bd (bodyOf e) ⟨true, vars, 0, ({ r with calls := r.calls + 1 } : Rn).burn⟩).value, { (Bd (bodyOf e) ⟨true, vars, 0, ({ r with calls := r.calls + 1 } : Rn).burn⟩).run with calls := (Bd (bodyOf e) ⟨true, vars, 0, ({ r with calls := r.calls + 1 } : Rn).burn⟩).run.calls - 1 }) := by
  unfold enW
  dsimp only
  rw [if_neg h60, if_pos hb]
theorem enter_x {e : Tr} (hw : Ws 4 (bodyOf e)) (hC : ∀ d', COk (clW (lensOf al) fl d')) (hB : ∀ d', d = d' + 1 → GSt 132 B pb d' (clW (lensOf al) fl d') al fl valT (bodyOf e)) : GE B pb d al fl e := by
  intro rb fb cb vars r w h hi hF
  obtain ⟨r0, hr0⟩ : ∃ r0, r0 = (if r.calls = 60 then r.stop 4 else r) := ⟨_, rfl⟩
  by_cases hb0 : ({ r0 with calls := r.calls + 1 } : Rn).burns = false
  · have e1 : enD (lensOf al) fl d e vars r = (0, { ({ r0 with calls := r.calls + 1 } : Rn).burn with calls := ({ r0 with calls := r.calls + 1 } : Rn).burn.calls - 1 }) := by
      cases d with
      | zero => exact enW_stop (e := e) (Bd := fun _ m => m) hr0 hb0
      | succ d => exact enW_stop (e := e) (Bd := stW (lensOf al) (clW (lensOf al) fl d)) hr0 hb0
    rw [e1]
    refine (enter_no (cb := cb) r0 hr0 hb0 w h).mono ?_
    rintro E w' ⟨rfl, h2, x2⟩
    exact ⟨rfl, h2, x2.y⟩
  · have h60 : r.calls ≠ 60 := by
      intro h60
      apply hb0
      rw [hr0, if_pos h60]
      unfold Rn.burns
      have : (r.stop 4).fin ≠ 0 := stop_fin 4 (by decide)
      simp [this]
    rw [if_neg h60] at hr0
    subst hr0
    have hb : ({ r0 with calls := r0.calls + 1 } : Rn).burns = true := by simpa using hb0
    have hf : r0.fuel ≠ 0 := by
      unfold Rn.burns at hb
      simp only [Bool.and_eq_true, decide_eq_true_eq] at hb
      exact hb.1
    cases d with
    | zero => exact absurd h.bd.fuel (by omega)
    | succ d =>
      have e1 : enD (lensOf al) fl (d + 1) e vars r0 = ((stW (lensOf al) (clW (lensOf al) fl d) (bodyOf e) ⟨true, vars, 0, ({ r0 with calls := r0.calls + 1 } : Rn).burn⟩).value, { (stW (lensOf al) (clW (lensOf al) fl d) (bodyOf e) ⟨true, vars, 0, ({ r0 with calls := r0.calls + 1 } : Rn).burn⟩).run with calls := (stW (lensOf al) (clW (lensOf al) fl d) (bodyOf e) ⟨true, vars, 0, ({ r0 with calls := r0.calls + 1 } : Rn).burn⟩).run.calls - 1 }) := enW_go h60 hb
      rw [e1]
      refine (enter_yes (cb := cb) h60 hb hw (hB d rfl) (stW (lensOf al) (clW (lensOf al) fl d) (bodyOf e) ⟨true, vars, 0, ({ r0 with calls := r0.calls + 1 } : Rn).burn⟩) rfl ((stW_mn (hC d) _ _ (Nat.le_refl _)).2 (.inl hw) ⟨true, vars, 0, ({ r0 with calls := r0.calls + 1 } : Rn).burn⟩) w h hi hF).mono ?_
      rintro E w' ⟨rfl, h2, x2⟩
      exact ⟨rfl, h2, x2⟩

theorem ex_one : ∀ (t : Tr), Ws 0 t → ∀ r, (exW lens C vars t r).1 = [hd (exW lens C vars t r).1] := by
  intro t
  induction t with
  | nil => intro h; exact absurd h (by unfold Ws nilOk; omega)
  | node b o a l q ihl _ =>
    intro hw r
    obtain ⟨_, sx, sy, hsig, hwl, _⟩ := hw.parts
    have ht : a.tag < 7 := by
      rcases Nat.lt_or_ge a.tag 7 with h | h
      · exact h
      · exfalso
        unfold sig at hsig
        rw [if_pos rfl] at hsig
        rw [if_neg (by omega), if_neg (by omega), if_neg (by omega), if_neg (by omega), if_neg (by omega)] at hsig
        cases hsig
    unfold exW
    split
    · rfl
    split
    · rfl
    split
    · split <;> rfl
    split
    · rfl
    split
    · rename_i h
      have h4 : a.tag = 4 := by omega
      rw [h4] at hsig
      cases hsig
      exact ihl hwl r
    split
    · rfl
    split
    · split <;> rfl
    · exfalso; omega
theorem ex_list {t : Tr} (h : Ws 3 t) : exW lens C vars t r = exW lens C vars (elems t) r := by
  rcases h.lst (.inl rfl) with rfl | ⟨b, o, a, l, rfl, ht, _⟩
  · rfl
  · show (if a.tag = 0 then _ else _) = _
    rw [if_neg (by omega), if_neg (by omega), if_neg (by omega), if_neg (by omega), if_pos (.inr ht)]
    rfl
theorem ex_cons {b o : Nat} {a : Nd} {e q : Tr} (h15 : a.tag = 15) : exW lens C vars (.node b o a e q) r = ((exW lens C vars e r).1 ++ (exW lens C vars q (exW lens C vars e r).2).1, (exW lens C vars q (exW lens C vars e r).2).2) := by
  show (if a.tag = 0 then _ else _) = _
  rw [if_neg (by omega), if_neg (by omega), if_neg (by omega), if_neg (by omega), if_neg (by omega), if_neg (by omega), if_neg (by omega), if_pos h15]
theorem args0_snoc (vs : List Int) (v : Int) : upd (args0 vs) vs.length v = args0 (vs ++ [v]) := by
  funext j
  unfold upd args0
  simp only [List.getD_eq_getElem?_getD, List.getElem?_append]
  by_cases h : j = vs.length
  · subst h; simp
  · by_cases h2 : j < vs.length
    · rw [if_neg h, if_pos h2]
    · rw [if_neg h, if_neg h2, List.getElem?_eq_none (by omega), List.getElem?_eq_none (by simp only [List.length_cons, List.length_nil]; omega)]
theorem Wx.setNew (h : Wx B rb w w') {c o : Nat} (hc : w.heap.size ≤ c) (v : Value) : Wx B rb w (w'.setCell ⟨c, o, none⟩ v) :=
  ⟨h.os, h.tape, h.output, Nat.le_trans h.size (by simp [World.setCell]), fun k h1 h2 h3 => (Below.heap_setCell _ _ _ _ (by show k ≠ c; omega)).trans (h.low k h1 h2 h3), fun k cs t h1 h2 h3 => (Below.heap_setCell _ _ _ _ (by have := (Array.getElem?_eq_some_iff.1 h1).1; show k ≠ c; omega)).trans (h.block k cs t h1 h2 h3)⟩
theorem Wx.y' (h : Wx B rb w w') (fb : Nat) : Wy B rb fb w w' := h.y
/-- A new frame. -/
theorem RnW.alloc (h : RnW B pb rb r w) (o : Obj) : RnW B pb rb r (w.alloc o) := by
  obtain ⟨cs, vO, hc, h1, h2⟩ := h.ex
  exact ⟨⟨cs, vO, (Below.heap_alloc _ _ _ (Array.getElem?_eq_some_iff.1 hc).1).trans hc, h1, own_move h2 (fun k hk => by
    obtain ⟨⟨c, hck⟩, _⟩ := own_typ h2 hk
    exact Below.heap_alloc _ _ _ (Array.getElem?_eq_some_iff.1 hck).1)⟩, h.ge, h.few⟩
end Go.Proofs.YtikffmloeifkpaaGreatDoor

/- Package walk: a call. -/
namespace Go.Proofs.YtikffmloeifkpaaGreatDoor
open Go.RowKit Go.Lib Go.Deep Go.ChangeMaps Go.MapKept
variable {vars : Nat → Int} {B pb rb fb d : Nat} {r : Rn} {w w' u : World} {value : Int} {al fl : List Tr}

/-- What holds while the arguments are worked. -/
structure LpC (B pb rb : Nat) (al : List Tr) (C : Cl) (vars : Nat → Int) (L : Tr) (T : List Int × Rn) (r : Rn) (w : World) (i : Nat) (vs : List Int) (r' : Rn) (wr : World) : Prop where
  res : T = (vs ++ (exW (lensOf al) C vars (dropL i L) r').1, (exW (lensOf al) C vars (dropL i L) r').2)
  len : vs.length = i
  rn : RnW B pb rb r' wr
  fm : FmW rb w.heap.size (args0 vs) 0 wr
  wx : Wx B rb w wr
  mn : Mn r r'

set_option maxRecDepth 100000 in
set_option maxHeartbeats 16000000 in
theorem call_x {b o : Nat} {a : Nd} {l q : Tr} {C : Cl} (hCd : C = clW (lensOf al) fl d) (ht : a.tag = 3) (hwl : Ws 3 l) (hC : COk C) {j : Nat} {e0 : Tr} (hj : a.which = j) (he : fl[j]? = some e0) (hlen : lenV l ≤ 4)
    (hA : AllG (fun e => Ws 0 e ∧ GX 200 B pb d C al fl valT e) (elems l))
    (hwh : Ws 5 (whereOf e0)) (hT : AllG (fun x => Ws 20 x ∧ GB 130 B pb d C al fl ptrT x) (elems (whereOf e0)))
    (hE : GE B pb d al fl e0) : GX 254 B pb d C al fl ptrT (.node b o a l q) := by
  intro rb fb vars value r w h hi
  obtain ⟨ao, cp, hvl⟩ := hwl.lstval (.inl rfl)
  have hjl : j < fl.length := by
    rcases Nat.lt_or_ge j fl.length with h | h
    · exact h
    · rw [List.getElem?_eq_none h] at he; cases he
  have hjI : 0 ≤ (j : Int) ∧ (j : Int) < (fl.length : Int) := by omega
  have cellsO : ∀ W : World, Own W b a l q → W.cell? ⟨b, 2, none⟩ = some (.int .i64 (j : Int)) ∧ W.cell? ⟨b, 3, none⟩ = some (.slice ao (lenV l) cp) ∧ W.cell? ⟨b, 4, none⟩ = some (.int .i64 a.site) := fun W ho => by
    obtain ⟨cs, hc, hn, h3, h4⟩ := own_tag ho (n := 3) ht
    exact ⟨by rw [cell_of_row _ _ _ _ _ _ hc, ← hj]; exact hn.2.2, by rw [cell_of_row _ _ _ _ _ _ hc, ← hvl]; exact h3, by rw [cell_of_row _ _ _ _ _ _ hc]; exact h4⟩
  obtain ⟨T, hTT⟩ : ∃ T, T = exW (lensOf al) C vars (elems l) r := ⟨_, rfl⟩
  have hX : exW (lensOf al) C vars (.node b o a l q) r = ([(C (j : Int) T.1 a.site T.2).1], (C (j : Int) T.1 a.site T.2).2) := by
    rw [hTT, ← ex_list hwl, ← hj]
    show (if a.tag = 0 then _ else _) = _
    rw [if_neg (by omega), if_neg (by omega), if_neg (by omega), if_pos ht]
  rw [hX]
  have hRes : ∀ vs r', T = (vs, r') → C (j : Int) T.1 a.site T.2 = enD (lensOf al) fl d e0 (args0 vs) (if tkW (args0 vs) (whereOf e0) then r' else r'.trap a.site) := fun vs r' e => by
    have e1 : fl.getD (j : Int).toNat .nil = e0 := by rw [List.getD_eq_getElem?_getD, Int.toNat_natCast, he]; rfl
    rw [hCd, clW_en, e, e1]
  show Calls Tryz.prog 254 #[.pointer (some ⟨fb, 0, none⟩), .pointer (some ⟨b, 0, none⟩)] w (PostX B pb rb (C (j : Int) T.1 a.site T.2).1 (C (j : Int) T.1 a.site T.2).2 w)
  generalize hR : C (j : Int) T.1 a.site T.2 = R at *
  -- the new frame
  obtain ⟨o1, ho⟩ : ∃ o1 : Obj, o1 = .cells #[.pointer (some ⟨rb, 0, none⟩), .int .i64 0, .int .i64 0, .int .i64 0, .int .i64 0, .int .i64 0, .int .i64 0, .int .i64 0, .int .i64 0, .int .i64 0, .int .i64 0, .int .i64 0, .int .i64 0, .int .i64 0] 165 := ⟨_, rfl⟩
  have kp : ∀ {p : Addr} {v : Value}, w.cell? p = some v → (w.alloc o1).cell? p = some v := fun {p v} hc => by
    have hl := World.block_lt_of_cell? w _ hc
    exact (World.cell?_of_block (Below.heap_alloc _ _ _ hl)).trans hc
  obtain ⟨_, m3, _⟩ := cellsO w hi.2.2
  have n3 := kp m3
  obtain ⟨f0, _, _, _⟩ := h.fm.cells
  have g0 := kp f0
  have L0 : LpC B pb rb al C vars (elems l) T r w 0 [] r (w.alloc o1) := by
    refine ⟨by rw [hTT]; rfl, rfl, h.rn.alloc o1, ⟨_, by rw [ho]; exact heap_alloc_new w _, rfl, fun i hi => ?_, rfl⟩, (Wx.refl _ _ _).alloc o1, Mn.refl _⟩
    have : i = 0 ∨ i = 1 ∨ i = 2 ∨ i = 3 ∨ i = 4 ∨ i = 5 ∨ i = 6 ∨ i = 7 ∨ i = 8 ∨ i = 9 ∨ i = 10 ∨ i = 11 := by omega
    rcases this with rfl | rfl | rfl | rfl | rfl | rfl | rfl | rfl | rfl | rfl | rfl | rfl <;> rfl
  have HH : Hid (XW B pb rb fb d al fl vars value r w) := h
  have HI : Hid (IsT w (.node b o a l q)) := hi
  have HO : Hid _ := cellsO
  have HWL : Hid (Ws 3 l) := hwl
  have HRS : Hid _ := hRes
  have HWD : Hid (Ws 13 (elems l)) := hwl.elems (.inl rfl)
  have hb := h.fm.ne h.rn
  clear hRes hR hX hTT cellsO kp h hi hwl hCd hb hj ht
  go_enter Tryz.func254, Tryz.ntmps254
  go_upto_region 2 with fail
  rw [← ho]
  clear ho
  generalize w.alloc o1 = w1 at *
  go_wp2_with fail
  go_loopg [19] (lenV l) (fun m v wr => ∃ (i : Nat) (vs : List Int) (r' : Rn), v = .int .i64 i ∧ i ≤ lenV l ∧ lenV l ≤ i + m ∧ LpC B pb rb al C vars (elems l) T r w i vs r' wr)
  case atStart => exact ⟨0, [], r, rfl, Nat.zero_le _, by omega, L0⟩
  case round =>
    clear L0
    obtain ⟨i, vs, r', rfl, hle, hm, LP⟩ := hrel
    by_cases hlt : i < lenV l
    · have hltI : (i : Int) < (lenV l : Int) := by omega
      have hiI : 0 ≤ (i : Int) ∧ (i : Int) < 12 := by omega
      obtain ⟨b2, o2, a2, e2, r2, hdl, hd2⟩ := dropL_lt i (elems l) (by rw [← lenV_elems]; exact hlt)
      have hAi := AllG.drop i _ hA
      rw [hdl] at hAi
      obtain ⟨h15, ⟨hE2, hG⟩, _⟩ := hAi
      have iw : IsT wr l := IsT.wx HH.out.rn LP.wx HI.out.1
      obtain ⟨gg, rfl, hcell⟩ := lst_cell (H := 0) (.inl rfl) HWL.out iw (Fr.refl 0 F0 wr) F0.body hvl hdl (by
        cases e2 with
        | nil => exact absurd hE2 (by unfold Ws nilOk; omega)
        | node b o a l r =>
          obtain ⟨_, x, y, e, _⟩ := hE2.parts
          exact ⟨b, o, a, l, r, rfl, fun h => (by rw [h] at e; cases e), fun h => (by rw [h] at e; cases e)⟩)
      obtain ⟨u, p, hve⟩ := hE2.val (.inl rfl)
      have hie : IsT wr e2 := by
        have h1 : IsT wr (elems l) := by
          cases l with
          | nil => trivial
          | node => exact iw.1
        have h2 := isT_drop i _ h1
        rw [hdl] at h2
        exact h2.1
      have X : XW B pb rb fb d al fl vars value r' wr := HH.out.wx LP.rn LP.wx LP.mn
      have hcall := hG rb fb vars value r' wr X hie
      rw [hve] at hcell hcall
      have hmn := exW_mn (lens := lensOf al) (vars := vars) hC e2 r'
      have hres := LP.res
      rw [hdl, ex_cons h15, ex_one e2 hE2 r'] at hres
      have HLP : Hid _ := LP
      have HD2 : Hid (dropL (i + 1) (elems l) = r2) := hd2
      generalize exW (lensOf al) C vars e2 r' = x at *
      obtain ⟨xl, r3⟩ := x
      dsimp only at *
      generalize hd xl = V at *
      have HRE : Hid _ := hres
      clear hres LP hG hE2 hdl hd2 iw hie h15 hve X
      go_wp2_with fail
      refine hcall.mono ?_
      rintro e W3 ⟨rfl, h3, x3⟩
      have f3 := HLP.out.fm.wx x3 (HLP.out.fm.ne HLP.out.rn)
      obtain ⟨_, _, mv, mz⟩ := f3.cells
      have mi := mv i (by omega)
      rw [Nat.add_comm] at mi
      obtain ⟨m, rfl⟩ : ∃ m, gk = m + 1 := ⟨gk - 1, by omega⟩
      have fin : ∃ (i' : Nat) (vs : List Int) (r' : Rn), Value.int .i64 ((i : Int) + 1) = .int .i64 i' ∧ i' ≤ lenV l ∧ lenV l ≤ i' + m ∧ LpC B pb rb al C vars (elems l) T r w i' vs r' (W3.setCell ⟨w.heap.size, 1 + i, none⟩ (.int .i64 V)) := by
        refine ⟨i + 1, vs ++ [V], r3, by simp, by omega, by omega, ?_, by simp [HLP.out.len], h3.frame f3 _ _, ?_, (HLP.out.wx.trans x3).setNew (Nat.le_refl _) _, HLP.out.mn.trans hmn⟩
        · rw [HD2.out, HRE.out, List.append_assoc]
        · rw [← args0_snoc, HLP.out.len, Nat.add_comm 1 i]
          exact f3.setVar (by omega) V
      clear h3 x3 f3 mv HLP HRE HD2 hcell
      go_wp2
      go_roundg m
      case rel => exact fin
      case measure => omega
    · have hltI : ¬ (i : Int) < (lenV l : Int) := by omega
      have hTe : T = (vs, r') := by
        have := LP.res
        rw [show i = lenL (elems l) by rw [← lenV_elems]; omega, dropL_end] at this
        rw [this, show exW (lensOf al) C vars .nil r' = ([], r') from rfl, List.append_nil]
      have hR := HRS.out vs r' hTe
      have X : XW B pb rb fb d al fl vars value r' wr := HH.out.wx LP.rn LP.wx LP.mn
      have iw : IsT wr (.node b o a l q) := IsT.wx HH.out.rn LP.wx HI.out
      obtain ⟨c2, _, _⟩ := HO.out wr iw.2.2
      obtain ⟨f9, _, _, _⟩ := X.fm.cells
      obtain ⟨p9, _, _, _, _, _⟩ := X.rn.cells
      obtain ⟨it, vA, vF, mm, vS, H9, hp, _, hF⟩ := X.pg.prog
      obtain ⟨g9, cp9, cb, o9, a9, l9, x9, y9, z9, pw, qb, hvF, hgj, e9, hfw⟩ := hF.get he
      have pF : wr.cell? ⟨pb, 2, none⟩ = some (.slice (some ⟨g9, 0, none⟩) fl.length cp9) := by
        rw [cell_of_row _ _ _ _ _ _ hp, ← hvF]; rfl
      have XC : XW B pb rb w.heap.size d al fl (args0 vs) 0 r' wr := ⟨X.rn, LP.fm, X.pg, X.bd⟩
      have iE : IsT wr e0 := X.pg.fns e0 (List.mem_of_getElem? he)
      have hXW : Hid _ := X
      have HXC : Hid _ := XC
      have HLX : Hid (Wx B rb w wr) := LP.wx
      have HIW : Hid (IsT wr (.node b o a l q)) := iw
      have HHR : Hid _ := hR
      have HIE : Hid (IsT wr e0) := iE
      have HFW : Hid (At wr cb 105 (fun cs => cs[4]? = some (valT (whereOf e0)) ∧ cs[5]? = some (valT (bodyOf e0)))) := by
        obtain ⟨cs, hc, _, _, h4, h5, _⟩ := hfw
        rw [Hid, e9]
        exact ⟨cs, hc, h4, h5⟩
      have hwI : IsT wr (whereOf e0) ∧ IsT wr (bodyOf e0) := by
        rw [e9] at iE ⊢
        exact ⟨iE.2.1.1, iE.2.1.2.1⟩
      have HWI : Hid _ := hwI
      clear LP X iw hp hF hvF e9 hfw XC iE hR hTe hwI
      go_wp2_with fail
      go_quiet (fail)
      -- the conditions
      have w5 : ∀ n, XW B pb rb w.heap.size d al fl (args0 vs) 0 r' (wr.drewN n) := fun n => ⟨HXC.out.rn.drewN n, HXC.out.fm, HXC.out.pg.drewN n, HXC.out.bd⟩
      have hwI5 : ∀ n, IsT (wr.drewN n) (whereOf e0) := fun n => IsT.hpq (w := wr) (w' := wr.drewN n) rfl HWI.out.1
      have HF5 : Hid (∀ n, At (wr.drewN n) cb 105 (fun cs => cs[4]? = some (valT (whereOf e0)) ∧ cs[5]? = some (valT (bodyOf e0)))) := fun n => HFW.out
      have hwc : ∀ n, (wr.drewN n).cell? ⟨cb, 4, none⟩ = some (valT (whereOf e0)) := fun n => by
        obtain ⟨cs, hc, h4, _⟩ := HF5.out n
        rw [cell_of_row _ _ _ _ _ _ hc]; exact h4
      have htk := fun n => takes_x hwh hT (wr.drewN n) (w5 n) (hwI5 n) (hwc n)
      have HC5 : Hid (∀ n, XW B pb rb w.heap.size d al fl (args0 vs) 0 r' (wr.drewN n)) := w5
      have HX5 : Hid (∀ n, XW B pb rb fb d al fl vars value r' (wr.drewN n)) := fun n => ⟨hXW.out.rn.drewN n, hXW.out.fm, hXW.out.pg.drewN n, hXW.out.bd⟩
      have HI5 : Hid (∀ n, IsT (wr.drewN n) (.node b o a l q)) := fun n => IsT.hpq (w := wr) (w' := wr.drewN n) rfl HIW.out
      have HB5 : Hid (∀ n, IsT (wr.drewN n) (bodyOf e0)) := fun n => IsT.hpq (w := wr) (w' := wr.drewN n) rfl HWI.out.2
      have HW5 : Hid (∀ n, Wx B rb w (wr.drewN n)) := fun n => HLX.out.drewN n
      have HFIN : Hid (∀ (x : Int × Rn) (W W' : World), R = x → Wx B rb w W → PostE B pb rb w.heap.size x W (.returned (.int .i64 x.1)) W' → PostX B pb rb R.1 R.2 w (.returned (.int .i64 R.1)) W') := fun x W W' ex hx hp => by
        rw [ex]
        exact ⟨rfl, hp.2.1, hp.2.2.caller hx (Nat.le_refl _)⟩
      clear w5 hwI5 hwc HXC HWI HIW HLX
      cases hk : tkW (args0 vs) (whereOf e0)
      · have HR2 : Hid (R = enD (lensOf al) fl d e0 (args0 vs) (r'.trap a.site)) := by
          have := HHR.out
          rw [hk] at this
          exact this
        have HTK : Hid (∀ n, Calls Tryz.prog 77 #[.pointer (some ⟨w.heap.size, 0, none⟩), .pointer (some ⟨cb, 0, none⟩)] (wr.drewN n) fun e w' => e = .returned (.bool false) ∧ RnW B pb rb r' w' ∧ Wx B rb (wr.drewN n) w') := fun n => by
          have := htk n
          rw [hk] at this
          exact this
        clear htk hk
        go_wp2_with fail
        refine (HTK.out _).mono ?_
        rintro e W6 ⟨rfl, h6, x6⟩
        have X6 := (HX5.out _).wx h6 x6 (Mn.refl _)
        have C6 := (HC5.out _).wx h6 x6 (Mn.refl _)
        have i6 : IsT W6 (.node b o a l q) := IsT.wx (HX5.out _).rn x6 (HI5.out _)
        have b6 : IsT W6 (bodyOf e0) := IsT.wx (HX5.out _).rn x6 (HB5.out _)
        have F6 := At.wx (HF5.out _) (HX5.out _).rn x6 (by decide) (by decide)
        have w6 := (HW5.out _).trans x6
        obtain ⟨k0, _, _, _⟩ := X6.fm.cells
        obtain ⟨_, _, k4⟩ := HO.out W6 i6.2.2
        have htr := trap_any a.site W6.drew h6.drew
        have HX6 : Hid _ := X6.drew
        have HC6 : Hid _ := C6.drew
        have HI6 : Hid (IsT W6.drew (.node b o a l q)) := IsT.hpq (w := W6) (w' := W6.drew) rfl i6
        have HB6 : Hid (IsT W6.drew (bodyOf e0)) := IsT.hpq (w := W6) (w' := W6.drew) rfl b6
        have HF6 : Hid (At W6.drew cb 105 (fun cs => cs[4]? = some (valT (whereOf e0)) ∧ cs[5]? = some (valT (bodyOf e0)))) := F6
        have HW6 : Hid _ := w6.drew
        clear X6 C6 i6 b6 F6 w6 h6 x6 HTK
        go_wp2_with fail
        go_region_held3 (fun w' => w'.cell? ⟨fb, 0, none⟩ = some (.pointer (some ⟨rb, 0, none⟩)) ∧ w'.cell? ⟨b, 4, none⟩ = some (.int .i64 a.site))
          (first
            | (refine ⟨?_, ?_⟩ <;> assumption)
            | go_keep)
          ((refine step_call rfl 305 #[.pointer (some ⟨rb, 0, none⟩), .int .i64 a.site] _ (by go_simp) htr ?_; rintro e W7 ⟨rfl, h7, x7⟩; refine ⟨_, rfl, ?_⟩; have f7 := HX6.out.fm.wx x7 (HX6.out.fm.ne HX6.out.rn); have i7 : IsT W7 (.node b o a l q) := IsT.wx HX6.out.rn x7 HI6.out; obtain ⟨p0, _, _, _⟩ := f7.cells; obtain ⟨_, _, p4⟩ := HO.out W7 i7.2.2))
        have C7 := HC6.out.wx h7 x7 (Mn.trap _ _)
        have b7 : IsT W7 (bodyOf e0) := IsT.wx HC6.out.rn x7 HB6.out
        obtain ⟨cs7, hc7, _, g5⟩ := At.wx HF6.out HC6.out.rn x7 (by decide) (by decide)
        have hen := hE rb w.heap.size cb (args0 vs) _ W7 C7 b7 ⟨cs7, hc7, g5⟩
        rw [← HR2.out] at hen
        have HW7 : Hid _ := HW6.out.trans x7
        clear C7 b7 hc7 g5 h7 x7 f7 i7
        go_wp2_with fail
        refine hen.mono ?_
        rintro e W8 hp
        obtain ⟨rfl, hp2⟩ := hp
        have fin := HFIN.out R W7 W8 rfl HW7.out ⟨rfl, hp2⟩
        have HFN : Hid _ := fin
        clear fin hp2
        go_wp2
        go_ret
        exact ⟨rfl, HFN.out.2⟩
      · have HR2 : Hid (R = enD (lensOf al) fl d e0 (args0 vs) r') := by
          have := HHR.out
          rw [hk] at this
          exact this
        have HTK : Hid (∀ n, Calls Tryz.prog 77 #[.pointer (some ⟨w.heap.size, 0, none⟩), .pointer (some ⟨cb, 0, none⟩)] (wr.drewN n) fun e w' => e = .returned (.bool true) ∧ RnW B pb rb r' w' ∧ Wx B rb (wr.drewN n) w') := fun n => by
          have := htk n
          rw [hk] at this
          exact this
        clear htk hk
        go_wp2_with fail
        refine (HTK.out _).mono ?_
        rintro e W6 ⟨rfl, h6, x6⟩
        have C6 := (HC5.out _).wx h6 x6 (Mn.refl _)
        have b6 : IsT W6 (bodyOf e0) := IsT.wx (HX5.out _).rn x6 (HB5.out _)
        obtain ⟨cs7, hc7, _, g5⟩ := At.wx (HF5.out _) (HX5.out _).rn x6 (by decide) (by decide)
        have hen := hE rb w.heap.size cb (args0 vs) _ W6 C6 b6 ⟨cs7, hc7, g5⟩
        rw [← HR2.out] at hen
        have HW6 : Hid _ := (HW5.out _).trans x6
        clear C6 b6 hc7 g5 h6 x6 HTK
        go_wp2_with fail
        refine hen.mono ?_
        rintro e W8 hp
        obtain ⟨rfl, hp2⟩ := hp
        have fin := HFIN.out R W6 W8 rfl HW6.out ⟨rfl, hp2⟩
        have HFN : Hid _ := fin
        clear fin hp2
        go_wp2
        go_ret
        exact ⟨rfl, HFN.out.2⟩
end Go.Proofs.YtikffmloeifkpaaGreatDoor

/- Package walk: all parts of a function; to each depth. -/
namespace Go.Proofs.YtikffmloeifkpaaGreatDoor
open Go.RowKit Go.Lib Go.Deep Go.ChangeMaps Go.MapKept
variable {B pb d : Nat} {al fl : List Tr} {par : Nat → Option Nat} {na : Nat} {C : Cl}

/-- What is asked of the functions of a program that is walked. -/
structure FlOk (par : Nat → Option Nat) (na : Nat) (al fl : List Tr) : Prop where
  arrs : na ≤ al.length
  few : fl.length ≤ 1000000
  pars : ∀ j n, par j = some n → n ≤ 4 ∧ ∃ e, fl[j]? = some e
  fns : ∀ e ∈ fl, Ws 5 (whereOf e) ∧ Ws 4 (bodyOf e) ∧ Vd par na 12 (whereOf e) ∧ Vd par na 12 (bodyOf e)
theorem FlOk.ok (h : FlOk par na al fl) (lens : Nat → Int) (d : Nat) : COk (clW lens fl d) := clW_ok (fun e he => (h.fns e he).2.1) d
theorem atom_expr {t : Tr} (h : Ws 21 t) : Ws 0 t := by
  cases t with
  | nil => exact absurd h (by unfold Ws nilOk; omega)
  | node b o a l q =>
    obtain ⟨ha, x, y, hsig, hl, hq⟩ := h.parts
    have h1 : a.tag ≤ 1 := by
      by_cases h1 : a.tag ≤ 1
      · exact h1
      · exfalso; simp [sig, h1] at hsig
    have e : x = 99 ∧ y = 99 := by
      have : a.tag = 0 ∨ a.tag = 1 := by omega
      rcases this with k | k <;> rw [k] at hsig <;> cases hsig <;> exact ⟨rfl, rfl⟩
    obtain ⟨rfl, rfl⟩ := e
    exact Ws.of (x := 99) (y := 99) (by simp [sig, h1]) ha hl hq (by omega)
theorem atom_x {t : Tr} (h : Ws 21 t) (hv : Vd par na 12 t) : GX 200 B pb d C al fl valT t := by
  have h0 := atom_expr h
  cases t with
  | nil => exact absurd h (by unfold Ws nilOk; omega)
  | node b o a l q =>
    obtain ⟨_, x, y, hsig, _⟩ := h.parts
    have h1 : a.tag ≤ 1 := by
      by_cases h1 : a.tag ≤ 1
      · exact h1
      · exfalso; simp [sig, h1] at hsig
    exact expr_x h0 (fun k => by have := hv.2.2.1 (.inl k); omega) (fun k => by omega) (fun k => by omega) (fun k => by omega) (fun k => by omega)
theorem where_x (hC : COk C) : ∀ (L : Tr), Ws 15 L → Vd par na 12 L → AllG (fun x => Ws 20 x ∧ GB 130 B pb d C al fl ptrT x) L := by
  intro L
  induction L with
  | nil => intro _ _; trivial
  | node b o a e r _ ih =>
    intro hw hv
    obtain ⟨h15, hwe, hwr⟩ := ws_rest (.inr (.inr (.inl rfl))) hw
    refine ⟨h15, ⟨hwe, ?_⟩, ih hwr hv.2.1⟩
    have hwe : Ws 20 e := hwe
    cases e with
    | nil => exact absurd hwe (by unfold Ws nilOk; omega)
    | node b o a l q =>
      obtain ⟨ha, x, y, hsig, hl, hq⟩ := hwe.parts
      have h7 : a.tag = 7 := by
        by_cases h : a.tag = 7
        · exact h
        · exfalso; simp [sig, h] at hsig
      rw [h7] at hsig
      cases hsig
      exact compare_x h7 (ha.op7 h7) hC (.inr hl) (atom_x hl hv.1.1) (.inr hq) (atom_x hq hv.1.2.1)
theorem where_all (hC : COk C) {p : Tr} (hw : Ws 5 p) (hv : Vd par na 12 p) : AllG (fun x => Ws 20 x ∧ GB 130 B pb d C al fl ptrT x) (elems p) := by
  refine where_x (par := par) (na := na) hC _ (hw.elems (.inr (.inr (.inl rfl)))) ?_
  cases p with
  | nil => trivial
  | node b o a l r => exact hv.1

theorem parts_d (hF : FlOk par na al fl) (hE : ∀ e ∈ fl, GE B pb d al fl e) : ∀ (n : Nat) (t : Tr), szT t ≤ n → Vd par na 12 t →
    (Ws 0 t → GX 200 B pb d (clW (lensOf al) fl d) al fl valT t) ∧ (Ws 1 t → GB 257 B pb d (clW (lensOf al) fl d) al fl valT t) ∧ (Ws 2 t → GSt 201 B pb d (clW (lensOf al) fl d) al fl valT t) ∧ (Ws 4 t → GSt 132 B pb d (clW (lensOf al) fl d) al fl valT t) ∧
    (Ws 13 t → AllG (fun e => Ws 0 e ∧ GX 200 B pb d (clW (lensOf al) fl d) al fl valT e) t) ∧ (Ws 14 t → AllG (fun e => Ws 2 e ∧ GSt 201 B pb d (clW (lensOf al) fl d) al fl valT e) t) := by
  have hC := hF.ok (lensOf al) d
  intro n
  induction n with
  | zero => intro t h; cases t <;> simp [szT] at h
  | succ n ih =>
    intro t hsz hv
    cases t with
    | nil =>
      refine ⟨fun h => absurd h (by unfold Ws nilOk; omega), fun h => absurd h (by unfold Ws nilOk; omega), fun h => absurd h (by unfold Ws nilOk; omega), fun h => ?_, fun _ => trivial, fun _ => trivial⟩
      exact block_x h hC trivial
    | node b o a l r =>
      have hl : szT l ≤ n ∧ szT r ≤ n := by simp only [szT] at hsz; omega
      obtain ⟨vl, vr, v1, v2, v3⟩ := hv
      have IL := ih l hl.1 vl
      have IR := ih r hl.2 vr
      have elemsOf : Ws 3 l → AllG (fun e => Ws 0 e ∧ GX 200 B pb d (clW (lensOf al) fl d) al fl valT e) (elems l) := by
        intro hw
        rcases hw.lst (.inl rfl) with rfl | ⟨b2, o2, a2, l2, rfl, h20, hw2⟩
        · trivial
        · have hsz2 : szT l2 ≤ n := by have := hl.1; simp only [szT] at this; omega
          exact (ih l2 hsz2 vl.1).2.2.2.2.1 hw2
      have ar := hF.arrs
      refine ⟨fun hw => ?_, fun hw => ?_, fun hw => ?_, fun hw => ?_, fun hw => ?_, fun hw => ?_⟩
      · obtain ⟨hok, x, y, hsig, hwl, hwr⟩ := hw.parts
        refine expr_x hw (fun hk => by have := v1 (.inl hk); omega) (fun hk => ?_) (fun hk => ?_) (fun hk => ?_) (fun hk => ?_)
        · have : x = 0 := by rcases hk with h | h <;> rw [h] at hsig <;> cases hsig <;> rfl
          subst this; exact ⟨hwl, IL.1 hwl⟩
        · have e : x = 0 ∧ y = 99 := by rw [hk] at hsig; cases hsig; exact ⟨rfl, rfl⟩
          obtain ⟨rfl, rfl⟩ := e
          obtain rfl := hwr.nil_of
          exact element_x hk hC (by have := v2 (.inl hk); omega) ⟨hwl, IL.1 hwl⟩
        · have : x = 3 := by rw [hk] at hsig; cases hsig; rfl
          subst this
          obtain ⟨k1, k2⟩ := v3 hk
          obtain ⟨p4, e0, he⟩ := hF.pars _ _ k2
          obtain ⟨f1, f2, f3, f4⟩ := hF.fns e0 (List.mem_of_getElem? he)
          exact call_x rfl hk hwl hC (j := a.which.toNat) (by omega) he p4 (elemsOf hwl) f1 (where_all hC f1 f3) (hE e0 (List.mem_of_getElem? he))
        · rw [hk] at hsig; cases hsig
          exact binary_x hk (hok.op6 hk) hC ⟨hwl, IL.1 hwl⟩ ⟨hwr, IR.1 hwr⟩
      · obtain ⟨hok, x, y, hsig, hwl, hwr⟩ := hw.parts
        refine cond_x hw hC (fun hk => ?_) (fun hk => ?_)
        · rw [hk] at hsig; cases hsig
          exact compare_x hk (hok.op7 hk) hC (.inl hwl) (IL.1 hwl) (.inl hwr) (IR.1 hwr)
        · rw [hk] at hsig; cases hsig
          exact ⟨hwl, hwr, IL.2.1 hwl, IR.2.1 hwr⟩
      · obtain ⟨hok, x, y, hsig, hwl, hwr⟩ := hw.parts
        obtain ⟨t1, t2⟩ := stmt_tag hw
        have tags : a.tag = 9 ∨ a.tag = 10 ∨ a.tag = 11 ∨ a.tag = 12 ∨ a.tag = 13 ∨ a.tag = 14 := by omega
        rcases tags with hk | hk | hk | hk | hk | hk
        · rw [hk] at hsig; cases hsig
          exact stmt_x9 hk hC (by have := v1 (.inr hk); omega) ⟨hwl, IL.1 hwl⟩
        · rw [hk] at hsig; cases hsig
          exact stmt_x10 hk hC (by have := v2 (.inr hk); omega) ⟨hwl, IL.1 hwl⟩ ⟨hwr, IR.1 hwr⟩
        · rw [hk] at hsig; cases hsig
          cases r with
          | nil => exact absurd hwr (by unfold Ws nilOk; omega)
          | node x y z p q =>
            obtain ⟨_, sp, sq, hs2, hwp, hwq⟩ := hwr.parts
            have hz : z.tag = 18 := by
              by_cases h : z.tag = 18
              · exact h
              · exfalso; simp [sig, h] at hs2
            rw [hz] at hs2
            cases hs2
            have hs : szT p ≤ n ∧ szT q ≤ n := by have := hl.2; simp only [szT] at this; omega
            exact stmt_x11 hk hC ⟨hwl, IL.2.1 hwl⟩ ⟨hwp, (ih p hs.1 vr.1).2.2.2.1 hwp⟩ ⟨hwq, (ih q hs.2 vr.2.1).2.2.2.1 hwq⟩
        · rw [hk] at hsig; cases hsig
          exact stmt_x12 hk (while_x hk hC ⟨hwl, IL.2.1 hwl⟩ ⟨hwr, IR.2.2.2.1 hwr⟩)
        · rw [hk] at hsig; cases hsig
          exact stmt_x13 hk ⟨hwl, IL.1 hwl⟩
        · rw [hk] at hsig; cases hsig
          exact stmt_x14 hk hC ⟨hwl, IL.1 hwl⟩
      · obtain ⟨b2, o2, a2, l2, e, h20, hw2⟩ := (hw.lst (.inr (.inl rfl))).resolve_left (by intro h; cases h)
        simp only [BT.node.injEq] at e
        obtain ⟨rfl, rfl, rfl, rfl, rfl⟩ := e
        exact block_x hw hC (IL.2.2.2.2.2 hw2)
      · obtain ⟨h15, hwe, hwr⟩ := ws_rest (.inl rfl) hw
        exact ⟨h15, ⟨hwe, IL.1 hwe⟩, IR.2.2.2.2.1 hwr⟩
      · obtain ⟨h15, hwe, hwr⟩ := ws_rest (.inr (.inl rfl)) hw
        exact ⟨h15, ⟨hwe, IL.2.2.1 hwe⟩, IR.2.2.2.2.2 hwr⟩
/-- Every function that is entered, to each depth. -/
theorem enter_all (hF : FlOk par na al fl) : ∀ (d : Nat), ∀ e ∈ fl, GE B pb d al fl e := by
  intro d
  induction d with
  | zero => intro e he; exact enter_x (hF.fns e he).2.1 (hF.ok _) (fun d' h => absurd h (by omega))
  | succ d ih =>
    intro e he
    obtain ⟨f1, f2, f3, f4⟩ := hF.fns e he
    refine enter_x f2 (hF.ok _) (fun d' h => ?_)
    obtain rfl : d' = d := by omega
    exact (parts_d hF ih _ _ (Nat.le_refl _) f4).2.2.2.1 f2
theorem takes_all (hF : FlOk par na al fl) (d : Nat) {e : Tr} (he : e ∈ fl) : AllG (fun x => Ws 20 x ∧ GB 130 B pb d (clW (lensOf al) fl d) al fl ptrT x) (elems (whereOf e)) :=
  where_all (hF.ok _ _) (hF.fns e he).1 (hF.fns e he).2.2.1
end Go.Proofs.YtikffmloeifkpaaGreatDoor

/- Package walk: places are not looked at; numbering keeps what is asked of a program that is walked. -/
namespace Go.Proofs.YtikffmloeifkpaaGreatDoor
open Go.RowKit Go.Lib Go.Deep Go.ChangeMaps Go.MapKept
variable {lens : Nat → Int} {C : Cl} {vars : Nat → Int} {fl al : List Tr}

theorem exW_er : ∀ (t : Tr) (r : Rn), exW lens C vars (er t) r = exW lens C vars t r := by
  intro t
  induction t with
  | nil => intro r; rfl
  | node b o a l q ihl ihq => intro r; simp only [er, exW, ihl, ihq]
theorem cdW_er : ∀ (t : Tr) (r : Rn), cdW lens C vars (er t) r = cdW lens C vars t r := by
  intro t
  induction t with
  | nil => intro r; rfl
  | node b o a l q ihl ihq => intro r; simp only [er, cdW, exW_er, ihl, ihq]
theorem stW_er : ∀ (n : Nat) (t : Tr), szT t ≤ n → stW lens C (er t) = stW lens C t := by
  intro n
  induction n with
  | zero => intro t h; cases t <;> simp [szT] at h
  | succ n ih =>
    intro t hsz
    cases t with
    | nil => rfl
    | node b o a l q =>
      have hl : szT l ≤ n ∧ szT q ≤ n := by simp only [szT] at hsz; omega
      funext m
      have e1 := ih l hl.1
      have e2 := ih q hl.2
      cases q with
      | nil => simp only [er, stW, exW_er, cdW_er, e1]
      | node x y z p s =>
        have hs : szT p ≤ n ∧ szT s ≤ n := by have := hl.2; simp only [szT] at this; omega
        have e3 := ih p hs.1
        have e4 := ih s hs.2
        show (if a.tag = 20 ∨ a.tag = 18 then _ else _) = (if a.tag = 20 ∨ a.tag = 18 then _ else _)
        rw [e1]
        split
        · rfl
        split
        · rw [e2]
        split
        · rw [exW_er]
        split
        · simp only [exW_er]
        split
        · show (if (cdW lens C m.vars (er l) m.run).1 then stW lens C (er p) _ else stW lens C (er s) _) = _
          rw [e3, e4, cdW_er]
        split
        · rw [e2]
          simp only [cdW_er]
        split
        · rw [exW_er]
        split
        · rw [exW_er]
        · rfl
theorem tkW_er : ∀ (t : Tr), tkW vars (er t) = tkW vars t := by
  intro t
  induction t with
  | nil => rfl
  | node b o a l q ihl ihq => simp only [er, tkW, cdW_er, ihl, ihq]
theorem whereOf_er (e : Tr) : whereOf (er e) = er (whereOf e) := by
  cases e with
  | nil => rfl
  | node b o a l q => cases q <;> rfl
theorem bodyOf_er (e : Tr) : bodyOf (er e) = er (bodyOf e) := by
  cases e with
  | nil => rfl
  | node b o a l q => cases q <;> rfl
theorem lensOf_er : lensOf (al.map er) = lensOf al := by
  funext k
  unfold lensOf
  rw [List.getElem?_map]
  cases al[k]? with
  | none => rfl
  | some e => cases e <;> rfl
theorem getD_er (j : Nat) : (fl.map er).getD j .nil = er (fl.getD j .nil) := by
  rw [List.getD_eq_getElem?_getD, List.getD_eq_getElem?_getD, List.getElem?_map]
  cases fl[j]? <;> rfl
theorem enW_er {Bs Bb : Tr → Fm → Fm} {e : Tr} (h : Bs (bodyOf (er e)) = Bb (bodyOf e)) : enW Bs (er e) = enW Bb e := by
  funext vars r
  unfold enW
  rw [h]
theorem clW_er : ∀ d, clW lens (fl.map er) d = clW lens fl d := by
  intro d
  induction d with
  | zero =>
    funext k l s r
    show enW _ ((fl.map er).getD k.toNat .nil) (args0 l) (if tkW (args0 l) (whereOf ((fl.map er).getD k.toNat .nil)) then r else r.trap s) = _
    rw [getD_er, whereOf_er, tkW_er]
    rw [enW_er (Bs := fun _ m => m) (Bb := fun _ m => m) rfl]
    rfl
  | succ d ih =>
    funext k l s r
    show enW (stW lens (clW lens (fl.map er) d)) ((fl.map er).getD k.toNat .nil) (args0 l) (if tkW (args0 l) (whereOf ((fl.map er).getD k.toNat .nil)) then r else r.trap s) = _
    rw [getD_er, whereOf_er, tkW_er, ih]
    rw [enW_er (Bs := stW lens (clW lens fl d)) (Bb := stW lens (clW lens fl d)) (by rw [bodyOf_er]; exact stW_er _ _ (Nat.le_refl _))]
    rfl
/-- What Walk answers, of the arrays, the functions, main. -/
def runX (al fl : List Tr) (main : Tr) (args : List Int) (fuel : Int) : Rs4 :=
  if args.length ≠ nPar main ∨ tkW (args0 args) (whereOf main) = false then ⟨5, 0, -1, []⟩
  else
    let x := enW (stW (lensOf al) (clW (lensOf al) fl (min (max fuel 0) 20000).toNat)) main (args0 args) ⟨fun _ => 0, (min (max fuel 0) 20000).toNat, 0, 0, -1, []⟩
    if x.2.fin = 0 then ⟨1, x.1, x.2.site, x.2.outs⟩ else ⟨x.2.fin, 0, x.2.site, x.2.outs⟩
theorem runX_er (main : Tr) (args : List Int) (fuel : Int) : runX (al.map er) (fl.map er) (er main) args fuel = runX al fl main args fuel := by
  unfold runX
  rw [nPar_er, whereOf_er, tkW_er, lensOf_er, clW_er]
  rw [enW_er (Bs := stW (lensOf al) (clW (lensOf al) fl (min (max fuel 0) 20000).toNat)) (Bb := stW (lensOf al) (clW (lensOf al) fl (min (max fuel 0) 20000).toNat)) (by rw [bodyOf_er]; exact stW_er _ _ (Nat.le_refl _))]
theorem runW_x (t : Tr) (m : Int) (args : List Int) (fuel : Int) : runW t m args fuel = runX (kindOf 16 (elems t)) (kindOf 17 (elems t)) ((kindOf 17 (elems t)).getD m.toNat .nil) args fuel := rfl

-- Numbering
variable {F : List Tr}
theorem nwOf_er (k : Int) : nwOf (F.map er) k = nwOf F k := by
  unfold nwOf
  rw [List.getElem?_map]
  cases F[k.toNat]? with
  | none => rfl
  | some e =>
    cases e with
    | nil => rfl
    | node b o a l q =>
      cases q with
      | nil => rfl
      | node x y z p s => exact lenV_er p
theorem siR_fl : ∀ (t : Tr) (S : Sl), siR (F.map er) t S = siR F t S := by
  intro t
  induction t with
  | nil => intro S; rfl
  | node b o a l r ihl ihr => intro S; simp only [siR, siPre, nwOf_er, ihl, ihr]
theorem siT_fl : ∀ (t : Tr) (S : Sl), siT (F.map er) t S = siT F t S := by
  intro t
  induction t with
  | nil => intro S; rfl
  | node b o a l r ihl ihr => intro S; simp only [siT, siPre, siNo, nwOf_er, siR_fl, ihl, ihr]
theorem fnsOf_er (t : Tr) : fnsOf (er t) = (fnsOf t).map er := by unfold fnsOf; rw [resT_er, elems_er, kind_er]
theorem treeOf_er {s : ByteArray} {t : Tr} (h : er t = rdT s) : treeOf s = er (siT (fnsOf t) (resT t) []) := by
  unfold treeOf
  rw [← h, resT_er, siT_er, fnsOf_er, siT_fl]
/-- What Walk answers of a text, of the program that was read of it. -/
theorem walkC_x {s : ByteArray} {t : Tr} (h : er t = rdT s) (args : List Int) (fuel : Int) : walkC s args fuel = runX (kindOf 16 (elems (siT (fnsOf t) (resT t) []))) (kindOf 17 (elems (siT (fnsOf t) (resT t) []))) ((kindOf 17 (elems (siT (fnsOf t) (resT t) []))).getD (resM t).toNat .nil) args fuel := by
  unfold walkC
  rw [treeOf_er h, ← h, resM_er, runW_x, elems_er, kind_er, kind_er, getD_er, runX_er]
theorem lenV_siT (t : Tr) (S : Sl) : lenV (siT F t S) = lenV t := by
  cases t with
  | nil => rfl
  | node b o a l r => exact (siT_sh F l _).lenL
theorem nPar_siT (t : Tr) (S : Sl) : nPar (siT F t S) = nPar t := by
  cases t with
  | nil => rfl
  | node b o a l r => exact lenV_siT l _
theorem Vd.si {par : Nat → Option Nat} {na nv : Nat} : ∀ {t : Tr} (S : Sl), Vd par na nv t → Vd par na nv (siT F t S) := by
  intro t
  induction t with
  | nil => intro S _; trivial
  | node b o a l r ihl ihr => intro S h; exact ⟨ihl _ h.1, ihr _ h.2.1, h.2.2.1, h.2.2.2.1, fun e => by rw [lenV_siT]; exact h.2.2.2.2 e⟩
theorem elems_siT (t : Tr) (h : ∀ b o a l r, t = .node b o a l r → a.tag = 20) (S : Sl) : elems (siT F t S) = siT F (elems t) S := by
  cases t with
  | nil => rfl
  | node b o a l r =>
    have := h b o a l r rfl
    rw [plain_si (by omega)]
    rfl
theorem tagOf_siT (t : Tr) (S : Sl) : tagOf (siT F t S) = tagOf t := by cases t <;> rfl
/-- The items of a kind, numbered: each is an item numbered. -/
theorem kind_siT (k : Nat) : ∀ (L : Tr) (S : Sl), Ws 18 L → ∃ f : Nat → Sl, kindOf k (siT F L S) = ((kindOf k L).zipIdx.map fun x => siT F x.1 (f x.2)) := by
  intro L
  induction L with
  | nil => intro S _; exact ⟨fun _ => [], rfl⟩
  | node b o a e r _ ih =>
    intro S hw
    obtain ⟨h15, hwe, hwr⟩ := ws_rest (.inr (.inr (.inr (.inr rfl)))) hw
    rw [plain_si (by omega)]
    obtain ⟨f, hf⟩ := ih (siR F e S) hwr
    by_cases hk : tagOf e = k
    · refine ⟨fun i => if i = 0 then S else f (i - 1), ?_⟩
      have e1 : kindOf k (.node b o a e r) = e :: kindOf k r := if_pos hk
      have e2 : kindOf k (.node b o a (siT F e S) (siT F r (siR F e S))) = siT F e S :: kindOf k (siT F r (siR F e S)) := if_pos (by rw [tagOf_siT]; exact hk)
      rw [e1, e2, hf, List.zipIdx_cons, List.map_cons, List.zipIdx_succ, List.map_map]
      congr 1
    · refine ⟨f, ?_⟩
      have e1 : kindOf k (.node b o a e r) = kindOf k r := if_neg hk
      have e2 : kindOf k (.node b o a (siT F e S) (siT F r (siR F e S))) = kindOf k (siT F r (siR F e S)) := if_neg (by rw [tagOf_siT]; exact hk)
      rw [e1, e2, hf]
theorem kind_siT_mem {k : Nat} {L : Tr} {S : Sl} (hw : Ws 18 L) {e : Tr} (h : e ∈ kindOf k (siT F L S)) : ∃ e0 S', e0 ∈ kindOf k L ∧ e = siT F e0 S' := by
  obtain ⟨f, hf⟩ := kind_siT (F := F) k L S hw
  rw [hf, List.mem_map] at h
  obtain ⟨⟨x, i⟩, hx, rfl⟩ := h
  exact ⟨x, f i, List.fst_mem_of_mem_zipIdx hx, rfl⟩
theorem kind_siT_ptr {k : Nat} {L : Tr} {S : Sl} (hw : Ws 18 L) : (kindOf k (siT F L S)).map ptrT = (kindOf k L).map ptrT := by
  obtain ⟨f, hf⟩ := kind_siT (F := F) k L S hw
  rw [hf, List.map_map]
  have : (ptrT ∘ fun x : Tr × Nat => siT F x.1 (f x.2)) = fun x => ptrT x.1 := by
    funext x
    exact (siT_sh F x.1 _).ptr
  rw [this, show (fun x : Tr × Nat => ptrT x.1) = ptrT ∘ Prod.fst from rfl, ← List.map_map, List.zipIdx_map_fst]
end Go.Proofs.YtikffmloeifkpaaGreatDoor
