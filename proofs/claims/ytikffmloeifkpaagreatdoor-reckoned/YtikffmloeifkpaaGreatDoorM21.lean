/- The program's contracts, part 21: each says what a function of the program does, for every argument that its premises name. -/
import Derived.Test.YtikffmloeifkpaaGreatDoorM20
/- Package walk: where a run lies; over, stop, trap, burn. -/
namespace Go.Proofs.YtikffmloeifkpaaGreatDoor
open Go.RowKit Go.Lib Go.Deep Go.ChangeMaps Go.MapKept
variable {B pb rb : Nat} {r : Rn} {w w' u : World}

/-- A run's cells: its program, the arrays, what fuel there is, how many functions run, the result. -/
structure RnC (pb : Nat) (r : Rn) (vO : Value) (cs : Array Value) : Prop where
  prog : cs[0]? = some (.pointer (some ⟨pb, 0, none⟩))
  arr : ∀ i, i < 384 → cs[i + 1]? = some (.int .i64 (r.arr i))
  fuel : cs[385]? = some (.int .i64 r.fuel)
  calls : cs[386]? = some (.int .i64 r.calls)
  fin : cs[387]? = some (.int .i64 r.fin)
  value : cs[388]? = some (.int .i64 0)
  site : cs[389]? = some (.int .i64 r.site)
  outs : cs[390]? = some vO
structure RnW (B pb rb : Nat) (r : Rn) (w : World) : Prop where
  ex : ∃ cs vO, w.heap[rb]? = some (.cells cs 162 (0, 0)) ∧ RnC pb r vO cs ∧ w.ownsRow B 2 1 vO r.outs.length (r.outs.map (Value.int .i64))
  ge : B ≤ rb
  few : r.fuel ≤ 20000 ∧ r.calls ≤ 61 ∧ r.outs.length ≤ 1000000
/-- What a run may change of memory: its own block, the rows of numbers that it made. -/
structure Wx (B rb : Nat) (w w' : World) : Prop where
  os : w'.os = w.os
  tape : w'.tape = w.tape
  output : w'.output = w.output
  size : w.heap.size ≤ w'.heap.size
  low : ∀ k, k < B → k ≠ rb → k < w.heap.size → w'.heap[k]? = w.heap[k]?
  block : ∀ k cs t, w.heap[k]? = some (.cells cs t (0, 0)) → k ≠ rb → t ≠ 2 → w'.heap[k]? = some (.cells cs t (0, 0))
theorem Wx.refl (B rb : Nat) (w : World) : Wx B rb w w := ⟨rfl, rfl, rfl, Nat.le_refl _, fun _ _ _ _ => rfl, fun _ _ _ h _ _ => h⟩
theorem Wx.trans (h : Wx B rb u w) (k : Wx B rb w w') : Wx B rb u w' :=
  ⟨k.os.trans h.os, k.tape.trans h.tape, k.output.trans h.output, Nat.le_trans h.size k.size, fun i h1 h2 h3 => (k.low i h1 h2 (Nat.lt_of_lt_of_le h3 h.size)).trans (h.low i h1 h2 h3), fun i cs t h1 h2 h3 => k.block i cs t (h.block i cs t h1 h2 h3) h2 h3⟩
theorem Wx.set (h : Wx B rb u w) (o : Nat) (v : Value) : Wx B rb u (w.setCell ⟨rb, o, none⟩ v) :=
  h.trans ⟨rfl, rfl, rfl, by simp [World.setCell], fun _ _ h2 _ => Below.heap_setCell _ _ _ _ h2, fun _ _ _ h1 h2 _ => (Below.heap_setCell _ _ _ _ h2).trans h1⟩
theorem Wx.alloc (h : Wx B rb u w) (o : Obj) : Wx B rb u (w.alloc o) :=
  h.trans ⟨rfl, rfl, rfl, by simp, fun _ _ _ h3 => Below.heap_alloc _ _ _ h3, fun _ _ _ h1 _ _ => (Below.heap_alloc _ _ _ (Array.getElem?_eq_some_iff.1 h1).1).trans h1⟩
theorem Wx.drewN (h : Wx B rb u w) (n : Nat) : Wx B rb u (w.drewN n) := ⟨h.os, h.tape, h.output, h.size, h.low, h.block⟩
theorem Wx.drew (h : Wx B rb u w) : Wx B rb u w.drew := ⟨h.os, h.tape, h.output, h.size, h.low, h.block⟩
theorem RnW.drewN (h : RnW B pb rb r w) (n : Nat) : RnW B pb rb r (w.drewN n) := ⟨h.ex, h.ge, h.few⟩
theorem RnW.drew (h : RnW B pb rb r w) : RnW B pb rb r w.drew := ⟨h.ex, h.ge, h.few⟩
/-- The cells of a run. -/
theorem RnW.cells (h : RnW B pb rb r w) : w.cell? ⟨rb, 0, none⟩ = some (.pointer (some ⟨pb, 0, none⟩)) ∧ w.cell? ⟨rb, 385, none⟩ = some (.int .i64 r.fuel) ∧ w.cell? ⟨rb, 386, none⟩ = some (.int .i64 r.calls) ∧ w.cell? ⟨rb, 387, none⟩ = some (.int .i64 r.fin) ∧ w.cell? ⟨rb, 389, none⟩ = some (.int .i64 r.site) ∧ ∀ o, w.frozen? ⟨rb, o, none⟩ = false := by
  obtain ⟨cs, vO, hc, h1, _⟩ := h.ex
  exact ⟨by rw [cell_of_row _ _ _ _ _ _ hc]; exact h1.prog, by rw [cell_of_row _ _ _ _ _ _ hc]; exact h1.fuel, by rw [cell_of_row _ _ _ _ _ _ hc]; exact h1.calls, by rw [cell_of_row _ _ _ _ _ _ hc]; exact h1.fin, by rw [cell_of_row _ _ _ _ _ _ hc]; exact h1.site, fun o => by simp [World.frozen?, hc]⟩
theorem RnW.arrAt (h : RnW B pb rb r w) {i : Nat} (hi : i < 384) : w.cell? ⟨rb, i + 1, none⟩ = some (.int .i64 (r.arr i)) := by
  obtain ⟨cs, vO, hc, h1, _⟩ := h.ex
  rw [cell_of_row _ _ _ _ _ _ hc]; exact h1.arr i hi
/-- One cell of a run is written. -/
theorem RnW.put (h : RnW B pb rb r w) {o : Nat} {v : Value} {r' : Rn} (hf : r'.fuel ≤ 20000 ∧ r'.calls ≤ 61) (ho : r'.outs = r.outs)
    (hn : ∀ (cs : Array Value) (vO : Value), RnC pb r vO cs → RnC pb r' vO (cs.setIfInBounds o v)) : RnW B pb rb r' (w.setCell ⟨rb, o, none⟩ v) := by
  obtain ⟨cs, vO, hc, h1, h2⟩ := h.ex
  refine ⟨⟨_, vO, heap_set v hc, hn cs vO h1, ?_⟩, h.ge, hf.1, hf.2, by rw [ho]; exact h.few.2.2⟩
  rw [ho]
  exact own_move h2 (fun k hk => by
    obtain ⟨⟨c, hck⟩, _⟩ := own_typ h2 hk
    exact Below.heap_setCell _ _ _ _ (ne_typ hck hc (by decide)))
theorem at_ne {cs : Array Value} {o j : Nat} {v x : Value} (hn : o ≠ j) (h : cs[j]? = some x) : (cs.setIfInBounds o v)[j]? = some x := (Array.getElem?_setIfInBounds_ne hn).trans h
theorem at_eq {cs : Array Value} {o : Nat} {v x : Value} (h : cs[o]? = some x) : (cs.setIfInBounds o v)[o]? = some v := by rw [Array.getElem?_setIfInBounds_self_of_lt (Array.getElem?_eq_some_iff.1 h).1]
theorem RnC.setFuel {vO : Value} {cs : Array Value} (h : RnC pb r vO cs) (n : Nat) : RnC pb { r with fuel := n } vO (cs.setIfInBounds 385 (.int .i64 n)) :=
  ⟨at_ne (by omega) h.prog, fun i hi => at_ne (by omega) (h.arr i hi), at_eq h.fuel, at_ne (by omega) h.calls, at_ne (by omega) h.fin, at_ne (by omega) h.value, at_ne (by omega) h.site, at_ne (by omega) h.outs⟩
theorem RnC.setCalls {vO : Value} {cs : Array Value} (h : RnC pb r vO cs) (n : Nat) : RnC pb { r with calls := n } vO (cs.setIfInBounds 386 (.int .i64 n)) :=
  ⟨at_ne (by omega) h.prog, fun i hi => at_ne (by omega) (h.arr i hi), at_ne (by omega) h.fuel, at_eq h.calls, at_ne (by omega) h.fin, at_ne (by omega) h.value, at_ne (by omega) h.site, at_ne (by omega) h.outs⟩
theorem RnC.setFin {vO : Value} {cs : Array Value} (h : RnC pb r vO cs) (n : Int) : RnC pb { r with fin := n } vO (cs.setIfInBounds 387 (.int .i64 n)) :=
  ⟨at_ne (by omega) h.prog, fun i hi => at_ne (by omega) (h.arr i hi), at_ne (by omega) h.fuel, at_ne (by omega) h.calls, at_eq h.fin, at_ne (by omega) h.value, at_ne (by omega) h.site, at_ne (by omega) h.outs⟩
theorem RnC.setSite {vO : Value} {cs : Array Value} (h : RnC pb r vO cs) (n : Int) : RnC pb { r with site := n } vO (cs.setIfInBounds 389 (.int .i64 n)) :=
  ⟨at_ne (by omega) h.prog, fun i hi => at_ne (by omega) (h.arr i hi), at_ne (by omega) h.fuel, at_ne (by omega) h.calls, at_ne (by omega) h.fin, at_ne (by omega) h.value, at_eq h.site, at_ne (by omega) h.outs⟩
theorem RnC.setArr {vO : Value} {cs : Array Value} (h : RnC pb r vO cs) {k : Nat} (hk : k < 384) (v : Int) : RnC pb { r with arr := upd r.arr k v } vO (cs.setIfInBounds (k + 1) (.int .i64 v)) := by
  refine ⟨at_ne (by omega) h.prog, fun i hi => ?_, at_ne (by omega) h.fuel, at_ne (by omega) h.calls, at_ne (by omega) h.fin, at_ne (by omega) h.value, at_ne (by omega) h.site, at_ne (by omega) h.outs⟩
  by_cases e : i = k
  · subst e
    rw [at_eq (h.arr i hi)]
    show _ = some (Value.int .i64 (upd r.arr i v i))
    rw [show upd r.arr i v i = v from if_pos rfl]
  · rw [at_ne (by omega) (h.arr i hi)]
    show _ = some (Value.int .i64 (upd r.arr k v i))
    rw [show upd r.arr k v i = r.arr i from if_neg e]
/-- Whether a run is over. -/
theorem over_any (w : World) (h : RnW B pb rb r w) : Calls Tryz.prog 80 #[.pointer (some ⟨rb, 0, none⟩)] w fun e w' => e = .returned (.bool (r.fin != 0)) ∧ w = w' := by
  obtain ⟨_, _, _, g, _, _⟩ := h.cells
  clear h
  go_enter Tryz.func80, Tryz.ntmps80
  go_wp2
  go_ret
  exact ⟨rfl, rfl⟩
theorem stop_any (k : Int) (w : World) (h : RnW B pb rb r w) : Calls Tryz.prog 78 #[.pointer (some ⟨rb, 0, none⟩), .int .i64 k] w fun e w' => e = .returned (.tuple #[]) ∧ RnW B pb rb (r.stop k) w' ∧ Wx B rb w w' := by
  obtain ⟨_, _, _, g, _, z⟩ := h.cells
  by_cases h0 : r.fin = 0
  · have t0 : (r.fin != 0) = false := by simp [h0]
    have FIN : Hid (RnW B pb rb (r.stop k) (w.setCell ⟨rb, 387, none⟩ (.int .i64 k))) := by
      rw [Hid, show r.stop k = { r with fin := k } from if_pos h0]
      exact h.put ⟨h.few.1, h.few.2.1⟩ rfl (fun cs vO hc => hc.setFin k)
    have HW : Hid (Calls Tryz.prog 80 #[.pointer (some ⟨rb, 0, none⟩)] w fun e w' => e = .returned (.bool (r.fin != 0)) ∧ w = w') := over_any w h
    clear h h0
    go_enter Tryz.func78, Tryz.ntmps78
    go_wp2_with fail
    refine HW.out.mono ?_
    rintro e w' ⟨rfl, rfl⟩
    go_wp2
    go_end0
    exact ⟨rfl, FIN.out, (Wx.refl _ _ _).set _ _⟩
  · have t0 : (r.fin != 0) = true := by simp [h0]
    have FIN : Hid (RnW B pb rb (r.stop k) w) := by rw [Hid, show r.stop k = r from if_neg h0]; exact h
    have HW : Hid (Calls Tryz.prog 80 #[.pointer (some ⟨rb, 0, none⟩)] w fun e w' => e = .returned (.bool (r.fin != 0)) ∧ w = w') := over_any w h
    clear h h0
    go_enter Tryz.func78, Tryz.ntmps78
    go_wp2_with fail
    refine HW.out.mono ?_
    rintro e w' ⟨rfl, rfl⟩
    go_wp2
    go_end0
    exact ⟨rfl, FIN.out, Wx.refl _ _ _⟩
end Go.Proofs.YtikffmloeifkpaaGreatDoor

/- Package walk: trap, burn; a function that runs. -/
namespace Go.Proofs.YtikffmloeifkpaaGreatDoor
open Go.RowKit Go.Lib Go.Deep Go.ChangeMaps Go.MapKept
variable {B pb rb : Nat} {r : Rn} {w w' u : World}

theorem trap_any (k : Int) (w : World) (h : RnW B pb rb r w) : Calls Tryz.prog 305 #[.pointer (some ⟨rb, 0, none⟩), .int .i64 k] w fun e w' => e = .returned (.tuple #[]) ∧ RnW B pb rb (r.trap k) w' ∧ Wx B rb w w' := by
  have HW : Hid (Calls Tryz.prog 80 #[.pointer (some ⟨rb, 0, none⟩)] w fun e w' => e = .returned (.bool (r.fin != 0)) ∧ w = w') := over_any w h
  by_cases h0 : r.fin = 0
  · have t0 : (r.fin != 0) = false := by simp [h0]
    have HS : Hid (Calls Tryz.prog 78 #[.pointer (some ⟨rb, 0, none⟩), .int .i64 2] w fun e w' => e = .returned (.tuple #[]) ∧ RnW B pb rb (r.stop 2) w' ∧ Wx B rb w w') := stop_any 2 w h
    have FIN : Hid (∀ w2, RnW B pb rb (r.stop 2) w2 → RnW B pb rb (r.trap k) (w2.setCell ⟨rb, 389, none⟩ (.int .i64 k))) := by
      intro w2 h2
      rw [show r.trap k = { (r.stop 2) with site := k } by unfold Rn.trap Rn.stop; rw [if_pos h0, if_pos h0]]
      exact h2.put ⟨h2.few.1, h2.few.2.1⟩ rfl (fun cs vO hc => hc.setSite k)
    clear h h0
    go_enter Tryz.func305, Tryz.ntmps305
    go_wp2_with fail
    refine HW.out.mono ?_
    rintro e w' ⟨rfl, rfl⟩
    go_wp2_with fail
    refine HS.out.mono ?_
    rintro e W2 ⟨rfl, h2, x2⟩
    obtain ⟨_, _, _, _, g, z⟩ := h2.cells
    have HF : Hid _ := FIN.out W2 h2
    have HX : Hid _ := x2
    clear FIN h2 x2
    go_wp2
    go_end0
    exact ⟨rfl, HF.out, HX.out.set _ _⟩
  · have t0 : (r.fin != 0) = true := by simp [h0]
    have FIN : Hid (RnW B pb rb (r.trap k) w) := by rw [Hid, show r.trap k = r from if_neg h0]; exact h
    clear h h0
    go_enter Tryz.func305, Tryz.ntmps305
    go_wp2_with fail
    refine HW.out.mono ?_
    rintro e w' ⟨rfl, rfl⟩
    go_wp2
    go_end0
    exact ⟨rfl, FIN.out, Wx.refl _ _ _⟩
theorem stop_fin (e : Int) (he : e ≠ 0) : (r.stop e).fin ≠ 0 := by
  unfold Rn.stop
  by_cases h : r.fin = 0
  · rw [if_pos h]; exact he
  · rw [if_neg h]; exact h
theorem burn_any (w : World) (h : RnW B pb rb r w) : Calls Tryz.prog 131 #[.pointer (some ⟨rb, 0, none⟩)] w fun e w' => e = .returned (.bool r.burns) ∧ RnW B pb rb r.burn w' ∧ Wx B rb w w' := by
  obtain ⟨_, g, _, _, _, z⟩ := h.cells
  by_cases hf : r.fuel = 0
  · have t1 : ((r.fuel : Int) == 0) = true := by simp [hf]
    have hb : r.burns = false := by unfold Rn.burns; simp [hf]
    have hr : r.burn = r.stop 3 := if_pos hf
    have hn := stop_fin (r := r) 3 (by decide)
    rw [hb, hr]
    have HS : Hid (Calls Tryz.prog 78 #[.pointer (some ⟨rb, 0, none⟩), .int .i64 3] w fun e w' => e = .returned (.tuple #[]) ∧ RnW B pb rb (r.stop 3) w' ∧ Wx B rb w w') := stop_any 3 w h
    have t2 : ((r.stop 3).fin != 0) = true := by simp [hn]
    clear h hf hb hr hn
    go_enter Tryz.func131, Tryz.ntmps131
    go_wp2_with fail
    refine HS.out.mono ?_
    rintro e W2 ⟨rfl, h2, x2⟩
    have HX : Hid _ := x2
    have HH : Hid _ := h2
    go_wp2_with fail
    refine (over_any W2 h2).mono ?_
    rintro e w' ⟨rfl, rfl⟩
    go_wp2
    go_ret
    exact ⟨rfl, HH.out, HX.out⟩
  · have t1 : ((r.fuel : Int) == 0) = false := by simp [hf]
    have HO : Hid (Calls Tryz.prog 80 #[.pointer (some ⟨rb, 0, none⟩)] w fun e w' => e = .returned (.bool (r.fin != 0)) ∧ w = w') := over_any w h
    have hge : 1 ≤ r.fuel ∧ r.fuel ≤ 20000 := ⟨by omega, h.few.1⟩
    by_cases h0 : r.fin = 0
    · have t2 : (r.fin != 0) = false := by simp [h0]
      have hb : r.burns = true := by unfold Rn.burns; simp [hf, h0]
      have hr : r.burn = { r with fuel := r.fuel - 1 } := by unfold Rn.burn; rw [if_neg hf, if_pos h0]
      have FIN : Hid (RnW B pb rb r.burn (w.setCell ⟨rb, 385, none⟩ (.int .i64 ((r.fuel : Int) - 1)))) := by
        rw [Hid, hr, show ((r.fuel : Int) - 1) = ((r.fuel - 1 : Nat) : Int) by omega]
        exact h.put ⟨by show r.fuel - 1 ≤ 20000; omega, h.few.2.1⟩ rfl (fun cs vO hc => hc.setFuel _)
      rw [hb]
      clear h h0 hf hb hr
      go_enter Tryz.func131, Tryz.ntmps131
      go_wp2_with fail
      refine HO.out.mono ?_
      rintro e w' ⟨rfl, rfl⟩
      go_wp2
      go_ret
      exact ⟨rfl, FIN.out, (Wx.refl _ _ _).set _ _⟩
    · have t2 : (r.fin != 0) = true := by simp [h0]
      have hb : r.burns = false := by unfold Rn.burns; simp [h0]
      have hr : r.burn = r := by unfold Rn.burn; rw [if_neg hf, if_neg h0]
      have HH : Hid (RnW B pb rb r w) := h
      rw [hb, hr]
      clear h h0 hf hb hr
      go_enter Tryz.func131, Tryz.ntmps131
      go_wp2_with fail
      refine HO.out.mono ?_
      rintro e w' ⟨rfl, rfl⟩
      go_wp2
      go_ret
      exact ⟨rfl, HH.out, Wx.refl _ _ _⟩

/-- A function's cells: the run, its variables, what return said. -/
structure FmC (rb : Nat) (vars : Nat → Int) (value : Int) (cs : Array Value) : Prop where
  run : cs[0]? = some (.pointer (some ⟨rb, 0, none⟩))
  vars : ∀ i, i < 12 → cs[i + 1]? = some (.int .i64 (vars i))
  value : cs[13]? = some (.int .i64 value)
def FmW (rb fb : Nat) (vars : Nat → Int) (value : Int) (w : World) : Prop := At w fb 165 (FmC rb vars value)
variable {fb : Nat} {vars : Nat → Int} {value : Int}
theorem FmW.wx (h : FmW rb fb vars value w) (hx : Wx B rb w w') (hne : fb ≠ rb) : FmW rb fb vars value w' := by
  obtain ⟨cs, hc, h1⟩ := h
  exact ⟨cs, hx.block _ _ _ hc hne (by decide), h1⟩
theorem FmW.ne (h : FmW rb fb vars value w) (hr : RnW B pb rb r w) : fb ≠ rb := by
  obtain ⟨cs, hc, _⟩ := h
  obtain ⟨cs2, _, hc2, _⟩ := hr.ex
  exact ne_typ hc hc2 (by decide)
theorem FmW.cells (h : FmW rb fb vars value w) : w.cell? ⟨fb, 0, none⟩ = some (.pointer (some ⟨rb, 0, none⟩)) ∧ w.cell? ⟨fb, 13, none⟩ = some (.int .i64 value) ∧ (∀ i, i < 12 → w.cell? ⟨fb, i + 1, none⟩ = some (.int .i64 (vars i))) ∧ ∀ o, w.frozen? ⟨fb, o, none⟩ = false := by
  obtain ⟨cs, hc, h1⟩ := h
  exact ⟨by rw [cell_of_row _ _ _ _ _ _ hc]; exact h1.run, by rw [cell_of_row _ _ _ _ _ _ hc]; exact h1.value, fun i hi => by rw [cell_of_row _ _ _ _ _ _ hc]; exact h1.vars i hi, fun o => by simp [World.frozen?, hc]⟩
end Go.Proofs.YtikffmloeifkpaaGreatDoor

/- Package walk: the program that it walks; within. -/
namespace Go.Proofs.YtikffmloeifkpaaGreatDoor
open Go.RowKit Go.Lib Go.Deep Go.ChangeMaps Go.MapKept
variable {B pb rb fb : Nat} {r : Rn} {w w' u : World} {vars : Nat → Int} {value : Int} {al fl : List Tr}

theorem At.wx {b : Nat} {t : TypeId} {Q : Array Value → Prop} (h : At w b t Q) (hr : RnW B pb rb r w) (hx : Wx B rb w w') (h1 : t ≠ 2) (h2 : t ≠ 162) : At w' b t Q := by
  obtain ⟨cs, hc, hq⟩ := h
  obtain ⟨c2, _, hc2, _⟩ := hr.ex
  exact ⟨cs, hx.block _ _ _ hc (ne_typ hc hc2 h2) h1, hq⟩
theorem rowTyp_wx (l : Tr) : rowTyp l ≠ 2 ∧ rowTyp l ≠ 162 := by
  constructor <;> (unfold rowTyp; repeat' split) <;> decide
theorem OwnN.wx {n b : Nat} {a : Nd} {l q : Tr} (hr : RnW B pb rb r w) (hx : Wx B rb w w') (h : OwnN n w b a l q) : OwnN n w' b a l q := by
  match n, h with
  | 0, h | 1, h | 2, h | 3, h | 4, h | 5, h | 6, h | 7, h | 8, h | 9, h | 10, h | 11, h | 12, h | 13, h | 14, h | 16, h | 17, h => exact At.wx h hr hx (by decide) (by decide)
  | 20, h => exact ⟨h.1, h.2.wx hr hx (rowTyp_wx _).1 (rowTyp_wx _).2⟩
  | 15, _ | 18, _ | 19, _ => trivial
  | n + 21, _ => trivial
theorem IsT.wx (hr : RnW B pb rb r w) (hx : Wx B rb w w') : ∀ {t : Tr}, IsT w t → IsT w' t := by
  intro t
  induction t with
  | nil => intro _; trivial
  | node b o a l q ihl ihr => intro h; exact ⟨ihl h.1, ihr h.2.1, OwnN.wx hr hx h.2.2⟩
theorem own_wx {base n sz : Nat} {e : TypeId} {v : Value} {xs : List Value} (h : w.ownsRow base e sz v n xs) (hr : RnW B pb rb r w) (hx : Wx B rb w w') (h1 : e ≠ 2) (h2 : e ≠ 162) : w'.ownsRow base e sz v n xs :=
  own_move h (fun k hk => by
    obtain ⟨⟨cs, hc⟩, _⟩ := own_typ h hk
    obtain ⟨c2, _, hc2, _⟩ := hr.ex
    rw [hc]
    exact hx.block _ _ _ hc (ne_typ hc hc2 h2) h1)
/-- The program that is walked. -/
structure PgX (pb : Nat) (al fl : List Tr) (w : World) : Prop where
  prog : ∃ it vA vF m vS H, w.heap[pb]? = some (.cells (prgC it vA vF m vS) 111 (0, 0)) ∧ w.ownsRow H 192 1 vA al.length (al.map ptrT) ∧ FnsW H vF fl w
  arr : ∀ e ∈ al, ∃ b o a l q, e = .node b o a l q ∧ At w b 196 (fun cs => cs[3]? = some (.int .i64 a.val)) ∧ 1 ≤ a.val ∧ a.val ≤ 64
  few : al.length ≤ 6
  fns : ∀ e ∈ fl, IsT w e
theorem OwnN.hpq {n b : Nat} {a : Nd} {l q : Tr} (h : w'.heap = w.heap) (ho : OwnN n w b a l q) : OwnN n w' b a l q := by
  have at_ : ∀ {t : TypeId} {Q : Array Value → Prop}, At w b t Q → At w' b t Q := fun ⟨cs, hc, hq⟩ => ⟨cs, by rw [h]; exact hc, hq⟩
  match n, ho with
  | 0, h | 1, h | 2, h | 3, h | 4, h | 5, h | 6, h | 7, h | 8, h | 9, h | 10, h | 11, h | 12, h | 13, h | 14, h | 16, h | 17, h => exact at_ h
  | 20, h => exact ⟨h.1, at_ h.2⟩
  | 15, _ | 18, _ | 19, _ => trivial
  | n + 21, _ => trivial
theorem IsT.hpq (h : w'.heap = w.heap) : ∀ {t : Tr}, IsT w t → IsT w' t := by
  intro t
  induction t with
  | nil => intro _; trivial
  | node b o a l q ihl ihr => intro k; exact ⟨ihl k.1, ihr k.2.1, OwnN.hpq h k.2.2⟩
theorem PgX.wx (h : PgX pb al fl w) (hr : RnW B pb rb r w) (hx : Wx B rb w w') : PgX pb al fl w' := by
  obtain ⟨it, vA, vF, m, vS, H, hp, hA, hF⟩ := h.prog
  obtain ⟨c2, _, hc2, _⟩ := hr.ex
  refine ⟨⟨it, vA, vF, m, vS, H, hx.block _ _ _ hp (ne_typ hp hc2 (by decide)) (by decide), own_wx hA hr hx (by decide) (by decide), ⟨own_wx hF.row hr hx (by decide) (by decide), fun e he => ?_⟩⟩, fun e he => ?_, h.few, fun e he => IsT.wx hr hx (h.fns e he)⟩
  · obtain ⟨b, o, a, l, x, y, z, p, q, e1, e2, e3⟩ := hF.own e he
    exact ⟨b, o, a, l, x, y, z, p, q, e1, At.wx e2 hr hx (by decide) (by decide), e3⟩
  · obtain ⟨b, o, a, l, q, e1, e2, e3⟩ := h.arr e he
    exact ⟨b, o, a, l, q, e1, At.wx e2 hr hx (by decide) (by decide), e3⟩
theorem PgX.drewN (h : PgX pb al fl w) (n : Nat) : PgX pb al fl (w.drewN n) := by
  obtain ⟨it, vA, vF, m, vS, H, hp, hA, hF⟩ := h.prog
  exact ⟨⟨it, vA, vF, m, vS, H, hp, hA, ⟨hF.row, hF.own⟩⟩, h.arr, h.few, fun e he => IsT.hpq (w := w) (w' := w.drewN n) rfl (h.fns e he)⟩
theorem PgX.drew (h : PgX pb al fl w) : PgX pb al fl w.drew := by
  obtain ⟨it, vA, vF, m, vS, H, hp, hA, hF⟩ := h.prog
  exact ⟨⟨it, vA, vF, m, vS, H, hp, hA, ⟨hF.row, hF.own⟩⟩, h.arr, h.few, fun e he => IsT.hpq (w := w) (w' := w.drew) rfl (h.fns e he)⟩
/-- An array, where it lies. -/
theorem PgX.at (h : PgX pb al fl w) {k : Nat} (hk : k < al.length) : ∃ g cp b, w.cell? ⟨pb, 1, none⟩ = some (.slice (some ⟨g, 0, none⟩) al.length cp) ∧ w.cell? ⟨g, k, none⟩ = some (.pointer (some ⟨b, 0, none⟩)) ∧ w.cell? ⟨b, 3, none⟩ = some (.int .i64 (lensOf al k)) ∧ 1 ≤ lensOf al k ∧ lensOf al k ≤ 64 := by
  obtain ⟨it, vA, vF, m, vS, H, hp, hA, hF⟩ := h.prog
  obtain ⟨b, o, a, l, q, e1, ⟨cs, hcs, h3⟩, hv⟩ := h.arr al[k] (List.getElem_mem hk)
  obtain ⟨g, cp, hv2⟩ : ∃ g cp, vA = .slice (some ⟨g, 0, none⟩) al.length cp := by
    obtain ⟨ao, cp, e1, e2⟩ := slice_any hA
    rcases e2 with e2 | ⟨g, e2⟩
    · omega
    · exact ⟨g, cp, by rw [e1, e2]⟩
  rw [hv2] at hA hp
  have hcell := hA.cellAt k (by omega)
  have hl : lensOf al k = a.val := by unfold lensOf; rw [List.getElem?_eq_getElem hk, e1]
  refine ⟨g, cp, b, by rw [cell_of_row _ _ _ _ _ _ hp]; rfl, ?_, by rw [cell_of_row _ _ _ _ _ _ hcs, hl]; exact h3, by rw [hl]; exact hv.1, by rw [hl]; exact hv.2⟩
  rw [hcell, List.getElem?_map, List.getElem?_eq_getElem hk, e1]
  rfl

set_option maxRecDepth 100000 in
set_option maxHeartbeats 4000000 in
theorem within_any (w : World) (h : RnW B pb rb r w) (hf : FmW rb fb vars value w) (hp : PgX pb al fl w) (x : ByteArray) (np : Int) (k : Nat) (hk : k < al.length) (i s : Int) :
    Calls Tryz.prog 304 #[.pointer (some ⟨fb, 0, none⟩), .agg #[.string x, .int .i64 np, .int .i64 k], .int .i64 i, .int .i64 s] w fun e w' => e = .returned (.bool (inside (lensOf al) k i)) ∧ RnW B pb rb (if inside (lensOf al) k i then r else r.trap s) w' ∧ Wx B rb w w' := by
  obtain ⟨g, cp, b, q1, q2, q3, q4, q5⟩ := hp.at hk
  obtain ⟨f0, _, _, _⟩ := hf.cells
  obtain ⟨r0, _, _, _, _, _⟩ := h.cells
  have hkI : 0 ≤ (k : Int) ∧ (k : Int) < (al.length : Int) := by omega
  have hins : ∀ b, inside (lensOf al) (k : Int) i = b ↔ (decide (0 ≤ i) && decide (i < lensOf al k)) = b := by intro b; unfold inside; simp
  generalize lensOf al k = n at *
  -- the name lies in a block of its own
  obtain ⟨o, ho⟩ : ∃ o : Obj, o = .cells #[.string x, .int .i64 np, .int .i64 k] 100 := ⟨_, rfl⟩
  have kp : ∀ {p : Addr} {v : Value}, w.cell? p = some v → (w.alloc o).cell? p = some v := fun {p v} hc => by
    have hl := World.block_lt_of_cell? w _ hc
    exact (World.cell?_of_block (Below.heap_alloc _ _ _ hl)).trans hc
  have u1 := kp q1
  have u2 := kp q2
  have u3 := kp q3
  have u4 := kp f0
  have u5 := kp r0
  have u6 : (w.alloc o).cell? ⟨w.heap.size, 2, none⟩ = some (.int .i64 k) := by
    have := heap_alloc_new w o
    rw [ho] at this ⊢
    rw [cell_of_row _ _ _ _ _ _ this]; rfl
  have XA : Wx B rb w (w.alloc o) := (Wx.refl _ _ _).alloc o
  have RA : RnW B pb rb r (w.alloc o) := by
    obtain ⟨cs, vO, hc, h1, h2⟩ := h.ex
    exact ⟨⟨cs, vO, (Below.heap_alloc _ _ _ (Array.getElem?_eq_some_iff.1 hc).1).trans hc, h1, own_move h2 (fun k hk => by
      obtain ⟨⟨c, hck⟩, _⟩ := own_typ h2 hk
      exact Below.heap_alloc _ _ _ (Array.getElem?_eq_some_iff.1 hck).1)⟩, h.ge, h.few⟩
  have HXA : Hid _ := XA
  have HRA : Hid (RnW B pb rb r (w.alloc o)) := RA
  clear q1 q2 q3 f0 r0 kp hp hf h XA RA
  by_cases h1 : 0 ≤ i
  · have t1 : decide (0 ≤ i) = true := by simp [h1]
    by_cases h2 : i < n
    · have t2 : decide (i < n) = true := by simp [h2]
      have hb : inside (lensOf al) (k : Int) i = true := (hins true).2 (by simp [h1, h2])
      rw [hb, if_pos rfl]
      clear hins hb
      go_enter Tryz.func304, Tryz.ntmps304
      go_wp2_with fail
      rw [← ho]
      clear ho
      generalize w.alloc o = W1 at *
      go_quiet (fail)
      go_wp2
      go_ret
      exact ⟨rfl, HRA.out.drewN _, HXA.out.drewN _⟩
    · have t2 : decide (i < n) = false := by simp [h2]
      have hb : inside (lensOf al) (k : Int) i = false := (hins false).2 (by simp [h2])
      rw [hb, if_neg (by decide)]
      clear hins hb
      go_enter Tryz.func304, Tryz.ntmps304
      go_wp2_with fail
      rw [← ho]
      clear ho
      generalize w.alloc o = W1 at *
      go_quiet (fail)
      go_wp2_with fail
      refine (trap_any s _ (HRA.out.drewN _)).mono ?_
      rintro e W2 ⟨rfl, h2, x2⟩
      have HH : Hid _ := h2
      have HX2 : Hid _ := x2
      clear h2 x2
      go_wp2
      go_ret
      exact ⟨rfl, HH.out, (HXA.out.drewN _).trans HX2.out⟩
  · have t1 : decide (0 ≤ i) = false := by simp [h1]
    have hb : inside (lensOf al) (k : Int) i = false := (hins false).2 (by simp [h1])
    rw [hb, if_neg (by decide)]
    clear hins hb
    go_enter Tryz.func304, Tryz.ntmps304
    go_wp2_with fail
    rw [← ho]
    clear ho
    generalize w.alloc o = W1 at *
    go_quiet (fail)
    go_wp2_with fail
    refine (trap_any s _ (HRA.out.drewN _)).mono ?_
    rintro e W2 ⟨rfl, h2, x2⟩
    have HH : Hid _ := h2
    have HX2 : Hid _ := x2
    clear h2 x2
    go_wp2
    go_ret
    exact ⟨rfl, HH.out, (HXA.out.drewN _).trans HX2.out⟩
end Go.Proofs.YtikffmloeifkpaaGreatDoor

/- Package walk: what a run keeps; an element, an operation. -/
namespace Go.Proofs.YtikffmloeifkpaaGreatDoor
open Go.RowKit Go.Lib Go.Deep Go.ChangeMaps Go.MapKept

/-- Fuel goes down; calls come back; what is told is paid with fuel. -/
structure Mn (r r' : Rn) : Prop where
  fuel : r'.fuel ≤ r.fuel
  calls : r'.calls = r.calls
  outs : r'.outs.length + r'.fuel ≤ r.outs.length + r.fuel
theorem Mn.refl (r : Rn) : Mn r r := ⟨Nat.le_refl _, rfl, Nat.le_refl _⟩
theorem Mn.trans {a b c : Rn} (h : Mn a b) (k : Mn b c) : Mn a c := ⟨Nat.le_trans k.fuel h.fuel, k.calls.trans h.calls, Nat.le_trans k.outs h.outs⟩
theorem Mn.stop (r : Rn) (e : Int) : Mn r (r.stop e) := by unfold Rn.stop; split <;> exact ⟨Nat.le_refl _, rfl, Nat.le_refl _⟩
theorem Mn.trap (r : Rn) (e : Int) : Mn r (r.trap e) := by unfold Rn.trap; split <;> exact ⟨Nat.le_refl _, rfl, Nat.le_refl _⟩
theorem Mn.burn (r : Rn) : Mn r r.burn := by
  unfold Rn.burn
  split
  · exact Mn.stop _ _
  · split
    · exact ⟨by show r.fuel - 1 ≤ r.fuel; omega, rfl, by show r.outs.length + (r.fuel - 1) ≤ _; omega⟩
    · exact Mn.refl _
def COk (C : Cl) : Prop := ∀ k l s r, Mn r (C k l s r).2
variable {lens : Nat → Int} {C : Cl} {vars : Nat → Int}
theorem exW_mn (hC : COk C) : ∀ (t : Tr) (r : Rn), Mn r (exW lens C vars t r).2 := by
  intro t
  induction t with
  | nil => intro r; exact Mn.refl _
  | node b o a l q ihl ihq =>
    intro r
    have h1 := ihl r
    have h2 := ihq (exW lens C vars l r).2
    unfold exW
    split
    · exact Mn.refl _
    split
    · exact Mn.refl _
    split
    · split
      · exact h1
      · exact h1.trans (Mn.trap _ _)
    split
    · exact h1.trans (hC _ _ _ _)
    split
    · exact h1
    split
    · exact h1
    split
    · split
      · exact (h1.trans h2).trans (Mn.trap _ _)
      · exact h1.trans h2
    split
    · exact h1.trans h2
    · exact Mn.refl _
theorem cdW_mn (hC : COk C) : ∀ (t : Tr) (r : Rn), Mn r (cdW lens C vars t r).2 := by
  intro t
  induction t with
  | nil => intro r; exact Mn.refl _
  | node b o a l q ihl ihq =>
    intro r
    have h1 := ihl r
    have h2 := ihq (cdW lens C vars l r).2
    unfold cdW
    split
    · exact (exW_mn hC l r).trans (exW_mn hC q _)
    split
    · split
      · exact h1.trans h2
      · exact h1
    · split
      · exact h1
      · exact h1.trans h2

/-- Ahead of a part: how much there may be of all. -/
structure Bd (d : Nat) (r : Rn) : Prop where
  calls : r.calls ≤ 60
  outs : r.outs.length + r.fuel ≤ 20000
  fuel : r.fuel ≤ d
theorem Bd.mn {d : Nat} {r r' : Rn} (h : Bd d r) (k : Mn r r') : Bd d r' := ⟨by rw [k.calls]; exact h.calls, Nat.le_trans k.outs h.outs, Nat.le_trans k.fuel h.fuel⟩
variable {B pb rb fb d : Nat} {r : Rn} {w w' u : World} {value : Int} {al fl : List Tr}

/-- All that a part is worked in. -/
structure XW (B pb rb fb d : Nat) (al fl : List Tr) (vars : Nat → Int) (value : Int) (r : Rn) (w : World) : Prop where
  rn : RnW B pb rb r w
  fm : FmW rb fb vars value w
  pg : PgX pb al fl w
  bd : Bd d r
theorem XW.wx (h : XW B pb rb fb d al fl vars value r w) {r' : Rn} (hr : RnW B pb rb r' w') (hx : Wx B rb w w') (hm : Mn r r') : XW B pb rb fb d al fl vars value r' w' :=
  ⟨hr, h.fm.wx hx (h.fm.ne h.rn), h.pg.wx h.rn hx, h.bd.mn hm⟩
/-- What is asked of an expression. -/
def PostX (B pb rb : Nat) (v : Int) (r' : Rn) (w : World) : Ending → World → Prop := fun e w' => e = .returned (.int .i64 v) ∧ RnW B pb rb r' w' ∧ Wx B rb w w'
def GX (f B pb d : Nat) (C : Cl) (al fl : List Tr) (val : Tr → Value) (t : Tr) : Prop :=
  ∀ rb fb vars value r w, XW B pb rb fb d al fl vars value r w → IsT w t → Calls Tryz.prog f #[.pointer (some ⟨fb, 0, none⟩), val t] w (PostX B pb rb (hd (exW (lensOf al) C vars t r).1) (exW (lensOf al) C vars t r).2 w)
end Go.Proofs.YtikffmloeifkpaaGreatDoor

/- Package walk: an element. -/
namespace Go.Proofs.YtikffmloeifkpaaGreatDoor
open Go.RowKit Go.Lib Go.Deep Go.ChangeMaps Go.MapKept
variable {lens : Nat → Int} {C : Cl} {vars : Nat → Int} {B pb rb fb d : Nat} {r : Rn} {w w' u : World} {value : Int} {al fl : List Tr}

set_option maxRecDepth 100000 in
set_option maxHeartbeats 4000000 in
theorem element_x {b o : Nat} {a : Nd} {l : Tr} (ht : a.tag = 2) (hC : COk C) (hk : 0 ≤ a.which ∧ a.which < al.length) (hl : Ws 0 l ∧ GX 200 B pb d C al fl valT l) : GX 253 B pb d C al fl ptrT (.node b o a l .nil) := by
  intro rb fb vars value r w h hi
  obtain ⟨k, hkk⟩ : ∃ k : Nat, a.which = k := ⟨a.which.toNat, by omega⟩
  have hka : k < al.length := by omega
  obtain ⟨hwl, hgl⟩ := hl
  obtain ⟨u, p, hvl⟩ := hwl.val (.inl rfl)
  have cellsO : ∀ W : World, Own W b a l .nil → W.cell? ⟨b, 0, none⟩ = some (.string a.name) ∧ W.cell? ⟨b, 1, none⟩ = some (.int .i64 a.npos) ∧ W.cell? ⟨b, 2, none⟩ = some (.int .i64 (k : Int)) ∧ W.cell? ⟨b, 3, none⟩ = some (valT l) ∧ W.cell? ⟨b, 4, none⟩ = some (.int .i64 a.site) := fun W ho => by
    obtain ⟨cs, hc, hn, h3, h4⟩ := own_tag ho (n := 2) ht
    have hn2 : cs[2]? = some (.int .i64 (k : Int)) := by rw [← hkk]; exact hn.2.2
    exact ⟨by rw [cell_of_row _ _ _ _ _ _ hc]; exact hn.1, by rw [cell_of_row _ _ _ _ _ _ hc]; exact hn.2.1, by rw [cell_of_row _ _ _ _ _ _ hc]; exact hn2, by rw [cell_of_row _ _ _ _ _ _ hc]; exact h3, by rw [cell_of_row _ _ _ _ _ _ hc]; exact h4⟩
  have hcall := hgl rb fb vars value r w h hi.1
  obtain ⟨_, _, _, m3, _⟩ := cellsO w hi.2.2
  rw [hvl] at m3 hcall
  have hmn := exW_mn (lens := lensOf al) (vars := vars) hC l r
  have hX : exW (lensOf al) C vars (.node b o a l .nil) r = (if inside (lensOf al) k (hd (exW (lensOf al) C vars l r).1) then ([(exW (lensOf al) C vars l r).2.arr (cellNo k (hd (exW (lensOf al) C vars l r).1))], (exW (lensOf al) C vars l r).2) else ([0], (exW (lensOf al) C vars l r).2.trap a.site)) := by
    show (if a.tag = 0 then _ else _) = _
    rw [if_neg (by omega), if_neg (by omega), if_pos ht, hkk]
  rw [hX]
  have HO : Hid _ := cellsO
  have HI : Hid (IsT w (.node b o a l .nil)) := hi
  have HH : Hid (XW B pb rb fb d al fl vars value r w) := h
  show Calls Tryz.prog 253 #[.pointer (some ⟨fb, 0, none⟩), .pointer (some ⟨b, 0, none⟩)] w _
  generalize exW (lensOf al) C vars l r = y at *
  obtain ⟨yl, r2⟩ := y
  dsimp only at *
  generalize hd yl = i at *
  clear hX cellsO hi h hgl hk
  have hkI : 0 ≤ (k : Int) ∧ (k : Int) < (al.length : Int) := by omega
  clear hkk
  cases hin : inside (lensOf al) (k : Int) i
  · rw [if_neg (by decide)]
    go_enter Tryz.func253, Tryz.ntmps253
    go_wp2_with fail
    refine hcall.mono ?_
    rintro e W2 ⟨rfl, h2, x2⟩
    have X2 := HH.out.wx h2 x2 hmn
    have o2 := OwnN.wx HH.out.rn x2 HI.out.2.2
    obtain ⟨n0, n1, n2, _, n4⟩ := HO.out W2 o2
    have hwi := within_any W2.drew h2.drew (show FmW rb fb vars value W2.drew from X2.fm) X2.pg.drew a.name a.npos k hka i a.site
    rw [hin] at hwi
    have HX2 : Hid _ := X2
    have Hx2 : Hid _ := x2
    have HO2 : Hid (Own W2 b a l .nil) := o2
    clear X2 x2 o2 h2 hcall m3 hin
    go_wp2_with fail
    go_region_held3 (fun w' => w'.cell? ⟨b, 0, none⟩ = some (.string a.name) ∧ w'.cell? ⟨b, 1, none⟩ = some (.int .i64 a.npos) ∧ w'.cell? ⟨b, 2, none⟩ = some (.int .i64 k) ∧ w'.cell? ⟨b, 4, none⟩ = some (.int .i64 a.site))
      (first
        | (refine ⟨?_, ?_, ?_, ?_⟩ <;> assumption)
        | go_keep)
      ((refine step_call rfl 304 #[.pointer (some ⟨fb, 0, none⟩), .agg #[.string a.name, .int .i64 a.npos, .int .i64 k], .int .i64 i, .int .i64 a.site] _ (by go_simp) hwi ?_; rintro e W3 ⟨rfl, h3, x3⟩; refine ⟨_, rfl, ?_⟩; have o3 : Own W3 b a l .nil := OwnN.wx (w := W2.drew) HX2.out.rn.drew x3 HO2.out; obtain ⟨p0, p1, p2, _, p4⟩ := HO.out W3 o3))
    have HH3 : Hid _ := h3
    have HX3 : Hid _ := x3
    clear h3 x3
    go_wp2
    go_ret
    exact ⟨rfl, HH3.out, Hx2.out.drew.trans HX3.out⟩
  · rw [if_pos rfl]
    obtain ⟨g9, cp9, b9, _, _, _, l1, l2⟩ := HH.out.pg.at hka
    have hb : 0 ≤ i ∧ i < 64 := by
      unfold inside at hin
      simp only [Bool.and_eq_true, decide_eq_true_eq, Int.toNat_natCast] at hin
      omega
    obtain ⟨n, rfl⟩ : ∃ n : Nat, i = n := ⟨i.toNat, by omega⟩
    have hnI : 0 ≤ (n : Int) ∧ (n : Int) < 64 := hb
    have hkJ : 0 ≤ (k : Int) ∧ (k : Int) < 6 := by have := HH.out.pg.few; omega
    have hn64 : n < 64 := by omega
    have hk6 : k < 6 := by omega
    clear hb
    go_enter Tryz.func253, Tryz.ntmps253
    go_wp2_with fail
    refine hcall.mono ?_
    rintro e W2 ⟨rfl, h2, x2⟩
    have X2 := HH.out.wx h2 x2 hmn
    have o2 := OwnN.wx HH.out.rn x2 HI.out.2.2
    obtain ⟨n0, n1, n2, _, n4⟩ := HO.out W2 o2
    have hwi := within_any W2.drew h2.drew (show FmW rb fb vars value W2.drew from X2.fm) X2.pg.drew a.name a.npos k hka n a.site
    rw [hin] at hwi
    have HX2 : Hid _ := X2
    have Hx2 : Hid _ := x2
    have HO2 : Hid (Own W2 b a l .nil) := o2
    clear X2 x2 o2 h2 hcall m3 hin
    go_wp2_with fail
    go_region_held3 (fun w' => w'.cell? ⟨b, 0, none⟩ = some (.string a.name) ∧ w'.cell? ⟨b, 1, none⟩ = some (.int .i64 a.npos) ∧ w'.cell? ⟨b, 2, none⟩ = some (.int .i64 k) ∧ w'.cell? ⟨b, 4, none⟩ = some (.int .i64 a.site))
      (first
        | (refine ⟨?_, ?_, ?_, ?_⟩ <;> assumption)
        | go_keep)
      ((refine step_call rfl 304 #[.pointer (some ⟨fb, 0, none⟩), .agg #[.string a.name, .int .i64 a.npos, .int .i64 k], .int .i64 n, .int .i64 a.site] _ (by go_simp) hwi ?_; rintro e W3 ⟨rfl, h3, x3⟩; refine ⟨_, rfl, ?_⟩; have o3 : Own W3 b a l .nil := OwnN.wx (w := W2.drew) HX2.out.rn.drew x3 HO2.out; obtain ⟨p0, p1, p2, _, p4⟩ := HO.out W3 o3))
    have h3' : RnW B pb rb r2 W3 := h3
    have hm3 : Mn r2 r2 := Mn.refl _
    have f3 := ((show FmW rb fb vars value W2.drew from HX2.out.fm).wx x3 (HX2.out.fm.ne HX2.out.rn)).cells.1
    have a3 := h3'.arrAt (i := cellNo k n) (by unfold cellNo; simp only [Int.toNat_natCast]; omega)
    have a4 : W3.cell? ⟨rb, 1 + k * 64 + n, none⟩ = some (.int .i64 (r2.arr (cellNo k n))) := by
      rw [show 1 + k * 64 + n = cellNo k n + 1 by unfold cellNo; simp only [Int.toNat_natCast]; omega]; exact a3
    have HH3 : Hid _ := h3'
    have HX3 : Hid _ := x3
    clear h3 x3 h3' a3
    generalize r2.arr (cellNo k n) = V at *
    go_wp2_with fail
    go_quiet (fail)
    go_wp2
    go_ret
    exact ⟨rfl, HH3.out.drewN _, (Hx2.out.drew.trans HX3.out).drewN _⟩
end Go.Proofs.YtikffmloeifkpaaGreatDoor

/- Package walk: an operation of two numbers. -/
namespace Go.Proofs.YtikffmloeifkpaaGreatDoor
open Go.RowKit Go.Lib Go.Deep Go.ChangeMaps Go.MapKept
variable {lens : Nat → Int} {C : Cl} {vars : Nat → Int} {B pb rb fb d : Nat} {r : Rn} {w w' u : World} {value : Int} {al fl : List Tr}

theorem six_site {b : Nat} {w : World} {a : Nd} {l q : Tr} (ho : Own w b a l q) (h : a.tag = 6) : w.cell? ⟨b, 4, none⟩ = some (.int .i64 a.site) := by
  obtain ⟨cs, hc, _, _, _, _, h4⟩ := own_tag ho (n := 6) h
  rw [cell_of_row _ _ _ _ _ _ hc]; exact h4
theorem exW_six {b o : Nat} {a : Nd} {l q : Tr} (ht : a.tag = 6) : exW lens C vars (.node b o a l q) r = (if 30 ≤ a.op ∧ hd (exW lens C vars q (exW lens C vars l r).2).1 = 0 then ([0], (exW lens C vars q (exW lens C vars l r).2).2.trap a.site)
       else ([arith a.op (hd (exW lens C vars l r).1) (hd (exW lens C vars q (exW lens C vars l r).2).1)], (exW lens C vars q (exW lens C vars l r).2).2)) := by
  show (if a.tag = 0 then _ else _) = _
  rw [if_neg (by omega), if_neg (by omega), if_neg (by omega), if_neg (by omega), if_neg (by omega), if_neg (by omega), if_pos ht]

set_option maxRecDepth 100000 in
set_option maxHeartbeats 8000000 in
theorem binary_x {b o : Nat} {a : Nd} {l q : Tr} (ht : a.tag = 6) (hop : 27 ≤ a.op ∧ a.op ≤ 31) (hC : COk C) (hl : Ws 0 l ∧ GX 200 B pb d C al fl valT l) (hq : Ws 0 q ∧ GX 200 B pb d C al fl valT q) : GX 255 B pb d C al fl ptrT (.node b o a l q) := by
  intro rb fb vars value r w h hi
  obtain ⟨hwl, hgl⟩ := hl
  obtain ⟨hwq, hgq⟩ := hq
  obtain ⟨u, p, hvl⟩ := hwl.val (.inl rfl)
  obtain ⟨u2, p2, hvq⟩ := hwq.val (.inl rfl)
  have hcall := hgl rb fb vars value r w h hi.1
  obtain ⟨_, _, m2, _⟩ := six_tag hi.2.2 ht
  rw [hvl] at m2 hcall
  have hmn := exW_mn (lens := lensOf al) (vars := vars) hC l r
  rw [exW_six ht]
  have HH : Hid (XW B pb rb fb d al fl vars value r w) := h
  have HI : Hid (IsT w (.node b o a l q)) := hi
  have HT : Hid (a.tag = 6) := ht
  show Calls Tryz.prog 255 #[.pointer (some ⟨fb, 0, none⟩), .pointer (some ⟨b, 0, none⟩)] w _
  have hmn2 := exW_mn (lens := lensOf al) (vars := vars) hC q (exW (lensOf al) C vars l r).2
  have HGQ : Hid (∀ w2, XW B pb rb fb d al fl vars value (exW (lensOf al) C vars l r).2 w2 → IsT w2 q → Calls Tryz.prog 200 #[.pointer (some ⟨fb, 0, none⟩), .iface u2 (.pointer (some p2))] w2 (PostX B pb rb (hd (exW (lensOf al) C vars q (exW (lensOf al) C vars l r).2).1) (exW (lensOf al) C vars q (exW (lensOf al) C vars l r).2).2 w2)) := fun w2 h2 i2 => by
    have := hgq rb fb vars value _ w2 h2 i2
    rw [hvq] at this
    exact this
  clear hgl hgq h hi
  generalize exW (lensOf al) C vars q (exW (lensOf al) C vars l r).2 = y at *
  generalize exW (lensOf al) C vars l r = x at *
  obtain ⟨xl, r2⟩ := x
  obtain ⟨yl, r3⟩ := y
  dsimp only at *
  generalize hd xl = A at *
  generalize hd yl = D at *
  generalize hopn : a.op = op at *
  have hcases : op = 27 ∨ op = 28 ∨ op = 29 ∨ op = 30 ∨ op = 31 := by omega
  clear hop
  rcases hcases with rfl | rfl | rfl | rfl | rfl
  · rw [if_neg (by omega)]
    have harith : arith 27 A D = w64 (A + D) := rfl
    go_enter Tryz.func255, Tryz.ntmps255
    go_wp2_with fail
    refine hcall.mono ?_
    rintro e W2 ⟨rfl, h2, x2⟩
    have X2 := HH.out.wx h2 x2 hmn
    have i2 : IsT W2 (.node b o a l q) := IsT.wx HH.out.rn x2 HI.out
    obtain ⟨_, _, _, n3⟩ := six_tag i2.2.2 HT.out
    have hcall2 := HGQ.out W2 X2 i2.2.1
    rw [hvq] at n3
    have HX2 : Hid _ := X2
    have Hx2 : Hid _ := x2
    have HI2 : Hid (IsT W2 (.node b o a l q)) := i2
    clear X2 x2 i2 h2 hcall m2
    go_wp2_with fail
    refine hcall2.mono ?_
    rintro e W3 ⟨rfl, h3, x3⟩
    have X3 := HX2.out.wx h3 x3 hmn2
    have i3 : IsT W3 (.node b o a l q) := IsT.wx HX2.out.rn x3 HI2.out
    obtain ⟨n0, _, _, _⟩ := six_tag i3.2.2 HT.out
    rw [hopn] at n0
    have n4 := six_site i3.2.2 HT.out
    have f0 := X3.fm.cells.1
    have HX3 : Hid _ := Hx2.out.trans x3
    have HH3 : Hid (RnW B pb rb r3 W3) := h3
    clear X3 x3 i3 h3 hcall2 n3
    have HA : Hid _ := harith
    clear harith hopn n4 f0
    go_wp2
    go_ret
    exact ⟨by rw [HA.out]; rfl, HH3.out, HX3.out⟩
  · rw [if_neg (by omega)]
    have harith : arith 28 A D = w64 (A - D) := rfl
    go_enter Tryz.func255, Tryz.ntmps255
    go_wp2_with fail
    refine hcall.mono ?_
    rintro e W2 ⟨rfl, h2, x2⟩
    have X2 := HH.out.wx h2 x2 hmn
    have i2 : IsT W2 (.node b o a l q) := IsT.wx HH.out.rn x2 HI.out
    obtain ⟨_, _, _, n3⟩ := six_tag i2.2.2 HT.out
    have hcall2 := HGQ.out W2 X2 i2.2.1
    rw [hvq] at n3
    have HX2 : Hid _ := X2
    have Hx2 : Hid _ := x2
    have HI2 : Hid (IsT W2 (.node b o a l q)) := i2
    clear X2 x2 i2 h2 hcall m2
    go_wp2_with fail
    refine hcall2.mono ?_
    rintro e W3 ⟨rfl, h3, x3⟩
    have X3 := HX2.out.wx h3 x3 hmn2
    have i3 : IsT W3 (.node b o a l q) := IsT.wx HX2.out.rn x3 HI2.out
    obtain ⟨n0, _, _, _⟩ := six_tag i3.2.2 HT.out
    rw [hopn] at n0
    have n4 := six_site i3.2.2 HT.out
    have f0 := X3.fm.cells.1
    have HX3 : Hid _ := Hx2.out.trans x3
    have HH3 : Hid (RnW B pb rb r3 W3) := h3
    clear X3 x3 i3 h3 hcall2 n3
    have HA : Hid _ := harith
    clear harith hopn n4 f0
    go_wp2
    go_ret
    exact ⟨by rw [HA.out]; rfl, HH3.out, HX3.out⟩
  · rw [if_neg (by omega)]
    have harith : arith 29 A D = w64 (A * D) := rfl
    go_enter Tryz.func255, Tryz.ntmps255
    go_wp2_with fail
    refine hcall.mono ?_
    rintro e W2 ⟨rfl, h2, x2⟩
    have X2 := HH.out.wx h2 x2 hmn
    have i2 : IsT W2 (.node b o a l q) := IsT.wx HH.out.rn x2 HI.out
    obtain ⟨_, _, _, n3⟩ := six_tag i2.2.2 HT.out
    have hcall2 := HGQ.out W2 X2 i2.2.1
    rw [hvq] at n3
    have HX2 : Hid _ := X2
    have Hx2 : Hid _ := x2
    have HI2 : Hid (IsT W2 (.node b o a l q)) := i2
    clear X2 x2 i2 h2 hcall m2
    go_wp2_with fail
    refine hcall2.mono ?_
    rintro e W3 ⟨rfl, h3, x3⟩
    have X3 := HX2.out.wx h3 x3 hmn2
    have i3 : IsT W3 (.node b o a l q) := IsT.wx HX2.out.rn x3 HI2.out
    obtain ⟨n0, _, _, _⟩ := six_tag i3.2.2 HT.out
    rw [hopn] at n0
    have n4 := six_site i3.2.2 HT.out
    have f0 := X3.fm.cells.1
    have HX3 : Hid _ := Hx2.out.trans x3
    have HH3 : Hid (RnW B pb rb r3 W3) := h3
    clear X3 x3 i3 h3 hcall2 n3
    have HA : Hid _ := harith
    clear harith hopn n4 f0
    go_wp2
    go_ret
    exact ⟨by rw [HA.out]; rfl, HH3.out, HX3.out⟩
  · by_cases hz : D = 0
    · rw [if_pos ⟨by omega, hz⟩]
      have tz : (D == 0) = true := by simp [hz]
      clear hz
      go_enter Tryz.func255, Tryz.ntmps255
      go_wp2_with fail
      refine hcall.mono ?_
      rintro e W2 ⟨rfl, h2, x2⟩
      have X2 := HH.out.wx h2 x2 hmn
      have i2 : IsT W2 (.node b o a l q) := IsT.wx HH.out.rn x2 HI.out
      obtain ⟨_, _, _, n3⟩ := six_tag i2.2.2 HT.out
      have hcall2 := HGQ.out W2 X2 i2.2.1
      rw [hvq] at n3
      have HX2 : Hid _ := X2
      have Hx2 : Hid _ := x2
      have HI2 : Hid (IsT W2 (.node b o a l q)) := i2
      clear X2 x2 i2 h2 hcall m2
      go_wp2_with fail
      refine hcall2.mono ?_
      rintro e W3 ⟨rfl, h3, x3⟩
      have X3 := HX2.out.wx h3 x3 hmn2
      have i3 : IsT W3 (.node b o a l q) := IsT.wx HX2.out.rn x3 HI2.out
      obtain ⟨n0, _, _, _⟩ := six_tag i3.2.2 HT.out
      rw [hopn] at n0
      have n4 := six_site i3.2.2 HT.out
      have f0 := X3.fm.cells.1
      have HX3 : Hid _ := Hx2.out.trans x3
      have HI3 : Hid (IsT W3 (.node b o a l q)) := i3
      have HF3 : Hid (FmW rb fb vars value W3) := X3.fm
      have HH3 : Hid (RnW B pb rb r3 W3) := h3
      clear X3 x3 i3 h3 hcall2 n3
      have htr := trap_any a.site W3.drew HH3.out.drew
      have HK : Hid (∀ W4, Wx B rb W3.drew W4 → W4.cell? ⟨b, 4, none⟩ = some (.int .i64 a.site) ∧ W4.cell? ⟨fb, 0, none⟩ = some (.pointer (some ⟨rb, 0, none⟩))) := fun W4 x4 => ⟨six_site (IsT.wx (w := W3.drew) HH3.out.drew x4 (IsT.next (w := W3) (w' := W3.drew) (fun _ _ => rfl) HI3.out)).2.2 HT.out, ((show FmW rb fb vars value W3.drew from HF3.out).wx x4 ((show FmW rb fb vars value W3.drew from HF3.out).ne HH3.out.drew)).cells.1⟩
      clear hopn
      go_wp2_with fail
      go_region_held3 (fun w' => w'.cell? ⟨b, 4, none⟩ = some (.int .i64 a.site) ∧ w'.cell? ⟨fb, 0, none⟩ = some (.pointer (some ⟨rb, 0, none⟩)))
        (first
          | (refine ⟨?_, ?_⟩ <;> assumption)
          | go_keep)
        ((refine step_call rfl 305 #[.pointer (some ⟨rb, 0, none⟩), .int .i64 a.site] _ (by go_simp) htr ?_; rintro e W4 ⟨rfl, h4, x4⟩; refine ⟨_, rfl, ?_⟩; obtain ⟨gg, hh⟩ := HK.out W4 x4))
      have HH4 : Hid _ := h4
      have HX4 : Hid _ := x4
      clear h4 x4
      go_wp2
      go_ret
      exact ⟨rfl, HH4.out, HX3.out.drew.trans HX4.out⟩
    · rw [if_neg (fun h => hz h.2)]
      have tz : (D == 0) = false := by simp [hz]
      have harith : arith 30 A D = w64 (A.tdiv D) := rfl
      go_enter Tryz.func255, Tryz.ntmps255
      go_wp2_with fail
      refine hcall.mono ?_
      rintro e W2 ⟨rfl, h2, x2⟩
      have X2 := HH.out.wx h2 x2 hmn
      have i2 : IsT W2 (.node b o a l q) := IsT.wx HH.out.rn x2 HI.out
      obtain ⟨_, _, _, n3⟩ := six_tag i2.2.2 HT.out
      have hcall2 := HGQ.out W2 X2 i2.2.1
      rw [hvq] at n3
      have HX2 : Hid _ := X2
      have Hx2 : Hid _ := x2
      have HI2 : Hid (IsT W2 (.node b o a l q)) := i2
      clear X2 x2 i2 h2 hcall m2
      go_wp2_with fail
      refine hcall2.mono ?_
      rintro e W3 ⟨rfl, h3, x3⟩
      have X3 := HX2.out.wx h3 x3 hmn2
      have i3 : IsT W3 (.node b o a l q) := IsT.wx HX2.out.rn x3 HI2.out
      obtain ⟨n0, _, _, _⟩ := six_tag i3.2.2 HT.out
      rw [hopn] at n0
      have n4 := six_site i3.2.2 HT.out
      have f0 := X3.fm.cells.1
      have HX3 : Hid _ := Hx2.out.trans x3
      have HH3 : Hid (RnW B pb rb r3 W3) := h3
      clear X3 x3 i3 h3 hcall2 n3
      have HA : Hid _ := harith
      clear harith hopn n4 f0
      go_wp2
      go_ret
      exact ⟨by rw [HA.out]; rfl, HH3.out, HX3.out⟩
  · by_cases hz : D = 0
    · rw [if_pos ⟨by omega, hz⟩]
      have tz : (D == 0) = true := by simp [hz]
      clear hz
      go_enter Tryz.func255, Tryz.ntmps255
      go_wp2_with fail
      refine hcall.mono ?_
      rintro e W2 ⟨rfl, h2, x2⟩
      have X2 := HH.out.wx h2 x2 hmn
      have i2 : IsT W2 (.node b o a l q) := IsT.wx HH.out.rn x2 HI.out
      obtain ⟨_, _, _, n3⟩ := six_tag i2.2.2 HT.out
      have hcall2 := HGQ.out W2 X2 i2.2.1
      rw [hvq] at n3
      have HX2 : Hid _ := X2
      have Hx2 : Hid _ := x2
      have HI2 : Hid (IsT W2 (.node b o a l q)) := i2
      clear X2 x2 i2 h2 hcall m2
      go_wp2_with fail
      refine hcall2.mono ?_
      rintro e W3 ⟨rfl, h3, x3⟩
      have X3 := HX2.out.wx h3 x3 hmn2
      have i3 : IsT W3 (.node b o a l q) := IsT.wx HX2.out.rn x3 HI2.out
      obtain ⟨n0, _, _, _⟩ := six_tag i3.2.2 HT.out
      rw [hopn] at n0
      have n4 := six_site i3.2.2 HT.out
      have f0 := X3.fm.cells.1
      have HX3 : Hid _ := Hx2.out.trans x3
      have HI3 : Hid (IsT W3 (.node b o a l q)) := i3
      have HF3 : Hid (FmW rb fb vars value W3) := X3.fm
      have HH3 : Hid (RnW B pb rb r3 W3) := h3
      clear X3 x3 i3 h3 hcall2 n3
      have htr := trap_any a.site W3.drew HH3.out.drew
      have HK : Hid (∀ W4, Wx B rb W3.drew W4 → W4.cell? ⟨b, 4, none⟩ = some (.int .i64 a.site) ∧ W4.cell? ⟨fb, 0, none⟩ = some (.pointer (some ⟨rb, 0, none⟩))) := fun W4 x4 => ⟨six_site (IsT.wx (w := W3.drew) HH3.out.drew x4 (IsT.next (w := W3) (w' := W3.drew) (fun _ _ => rfl) HI3.out)).2.2 HT.out, ((show FmW rb fb vars value W3.drew from HF3.out).wx x4 ((show FmW rb fb vars value W3.drew from HF3.out).ne HH3.out.drew)).cells.1⟩
      clear hopn
      go_wp2_with fail
      go_region_held3 (fun w' => w'.cell? ⟨b, 4, none⟩ = some (.int .i64 a.site) ∧ w'.cell? ⟨fb, 0, none⟩ = some (.pointer (some ⟨rb, 0, none⟩)))
        (first
          | (refine ⟨?_, ?_⟩ <;> assumption)
          | go_keep)
        ((refine step_call rfl 305 #[.pointer (some ⟨rb, 0, none⟩), .int .i64 a.site] _ (by go_simp) htr ?_; rintro e W4 ⟨rfl, h4, x4⟩; refine ⟨_, rfl, ?_⟩; obtain ⟨gg, hh⟩ := HK.out W4 x4))
      have HH4 : Hid _ := h4
      have HX4 : Hid _ := x4
      clear h4 x4
      go_wp2
      go_ret
      exact ⟨rfl, HH4.out, HX3.out.drew.trans HX4.out⟩
    · rw [if_neg (fun h => hz h.2)]
      have tz : (D == 0) = false := by simp [hz]
      have harith : arith 31 A D = A.tmod D := rfl
      go_enter Tryz.func255, Tryz.ntmps255
      go_wp2_with fail
      refine hcall.mono ?_
      rintro e W2 ⟨rfl, h2, x2⟩
      have X2 := HH.out.wx h2 x2 hmn
      have i2 : IsT W2 (.node b o a l q) := IsT.wx HH.out.rn x2 HI.out
      obtain ⟨_, _, _, n3⟩ := six_tag i2.2.2 HT.out
      have hcall2 := HGQ.out W2 X2 i2.2.1
      rw [hvq] at n3
      have HX2 : Hid _ := X2
      have Hx2 : Hid _ := x2
      have HI2 : Hid (IsT W2 (.node b o a l q)) := i2
      clear X2 x2 i2 h2 hcall m2
      go_wp2_with fail
      refine hcall2.mono ?_
      rintro e W3 ⟨rfl, h3, x3⟩
      have X3 := HX2.out.wx h3 x3 hmn2
      have i3 : IsT W3 (.node b o a l q) := IsT.wx HX2.out.rn x3 HI2.out
      obtain ⟨n0, _, _, _⟩ := six_tag i3.2.2 HT.out
      rw [hopn] at n0
      have n4 := six_site i3.2.2 HT.out
      have f0 := X3.fm.cells.1
      have HX3 : Hid _ := Hx2.out.trans x3
      have HH3 : Hid (RnW B pb rb r3 W3) := h3
      clear X3 x3 i3 h3 hcall2 n3
      have HA : Hid _ := harith
      clear harith hopn n4 f0
      go_wp2
      go_ret
      exact ⟨by rw [HA.out]; rfl, HH3.out, HX3.out⟩
end Go.Proofs.YtikffmloeifkpaaGreatDoor

/- Package walk: an expression. -/
namespace Go.Proofs.YtikffmloeifkpaaGreatDoor
open Go.RowKit Go.Lib Go.Deep Go.ChangeMaps Go.MapKept
variable {lens : Nat → Int} {C : Cl} {vars : Nat → Int} {B pb rb fb d : Nat} {r : Rn} {w w' u : World} {value : Int} {al fl : List Tr}

theorem ta_number (u : TypeId) (v : Value) (w : World) : (Instr.typeAssert (.iface u v) 269 362 true).run Tryz.prog w = .ok (.tuple #[if u = 362 then v else .pointer none, .bool (decide (u = 362))]) w := ta_iface _ u v w Tryz.underlying362 (by kernel_rfl)

set_option maxRecDepth 100000 in
set_option maxHeartbeats 8000000 in
theorem expr_x {b o : Nat} {a : Nd} {l q : Tr} (hw : Ws 0 (.node b o a l q)) (hv : a.tag = 1 → 0 ≤ a.which ∧ a.which < 12) (hl : a.tag = 4 ∨ a.tag = 5 → Ws 0 l ∧ GX 200 B pb d C al fl valT l)
    (h2 : a.tag = 2 → GX 253 B pb d C al fl ptrT (.node b o a l q)) (h3 : a.tag = 3 → GX 254 B pb d C al fl ptrT (.node b o a l q)) (h6 : a.tag = 6 → GX 255 B pb d C al fl ptrT (.node b o a l q)) :
    GX 200 B pb d C al fl valT (.node b o a l q) := by
  intro rb fb vars value r w h hi
  obtain ⟨hoka, sx, sy, hsig, hwl, hwr⟩ := hw.parts
  have ht : a.tag < 7 := by
    rcases Nat.lt_or_ge a.tag 7 with h | h
    · exact h
    · exfalso
      unfold sig at hsig
      rw [if_pos rfl] at hsig
      rw [if_neg (by omega), if_neg (by omega), if_neg (by omega), if_neg (by omega), if_neg (by omega)] at hsig
      cases hsig
  have hown := hi.2.2
  have hval : valT (.node b o a l q) = .iface (ityp a.tag) (.pointer (some ⟨b, 0, none⟩)) := if_neg (by omega)
  rw [hval]
  clear hval hsig
  have t0 := fun u v => ta_number u v w
  have t1 := fun u v => ta_variable u v w
  have t2 := fun u v => ta_element u v w
  have t3 := fun u v => ta_call u v w
  have t4 := fun u v => ta_bracket u v w
  have t5 := fun u v => ta_negate u v w
  have t6 := fun u v => ta_binary u v w
  by_cases k0 : a.tag = 0
  · have hX : exW (lensOf al) C vars (.node b o a l q) r = ([a.val], r) := if_pos k0
    have m0 : w.cell? ⟨b, 0, none⟩ = some (.int .i64 a.val) := by
      obtain ⟨cs, hc, h0⟩ := own_tag hown (n := 0) k0
      rw [cell_of_row _ _ _ _ _ _ hc]; exact h0
    rw [hX, show ityp a.tag = 362 by rw [k0]; rfl]
    have HR : Hid (RnW B pb rb r w) := h.rn
    clear hv hl h2 h3 h6 hX hown hi hw hwl hwr h k0 ht
    go_enter Tryz.func200, Tryz.ntmps200
    go_wp2
    go_ret
    exact ⟨rfl, HR.out, Wx.refl _ _ _⟩
  by_cases k1 : a.tag = 1
  · have hX : exW (lensOf al) C vars (.node b o a l q) r = ([vars a.which.toNat], r) := (if_neg k0).trans (if_pos k1)
    obtain ⟨hv1, hv2⟩ := hv k1
    obtain ⟨j, hj⟩ : ∃ j : Nat, a.which = j := ⟨a.which.toNat, by omega⟩
    have m0 : w.cell? ⟨b, 2, none⟩ = some (.int .i64 (j : Int)) := by
      obtain ⟨cs, hc, hn⟩ := own_tag hown (n := 1) k1
      rw [cell_of_row _ _ _ _ _ _ hc, ← hj]; exact hn.2.2
    have mv : w.cell? ⟨fb, 1 + j, none⟩ = some (.int .i64 (vars j)) := by
      rw [Nat.add_comm]; exact h.fm.cells.2.2.1 j (by omega)
    have hjI : 0 ≤ (j : Int) ∧ (j : Int) < 12 := by omega
    rw [hX, hj, Int.toNat_natCast, show ityp a.tag = 359 by rw [k1]; rfl]
    generalize vars j = V at *
    have HR : Hid (RnW B pb rb r w) := h.rn
    clear hv hl h2 h3 h6 hX hown hi hw hwl hwr h k0 k1 ht hv1 hv2 hj
    go_enter Tryz.func200, Tryz.ntmps200
    go_wp2_with fail
    go_quiet (fail)
    go_wp2
    go_ret
    exact ⟨rfl, HR.out.drewN _, (Wx.refl _ _ _).drewN _⟩
  by_cases k2 : a.tag = 2
  · have hcall := h2 k2 rb fb vars value r w h hi
    have hcall' : Calls Tryz.prog 253 #[.pointer (some ⟨fb, 0, none⟩), .pointer (some ⟨b, 0, none⟩)] w _ := hcall
    rw [show ityp a.tag = 393 by rw [k2]; rfl]
    generalize exW (lensOf al) C vars (.node b o a l q) r = y at *
    clear hv hl h2 h3 h6 hown hi hw hwl hwr h k0 k1 k2 ht hcall
    go_enter Tryz.func200, Tryz.ntmps200
    go_wp2_with fail
    refine hcall'.mono ?_
    rintro e W2 ⟨rfl, g2, x2⟩
    have HG : Hid _ := g2
    have HX : Hid _ := x2
    clear g2 x2
    go_wp2
    go_ret
    exact ⟨rfl, HG.out, HX.out⟩
  by_cases k3 : a.tag = 3
  · have hcall := h3 k3 rb fb vars value r w h hi
    have hcall' : Calls Tryz.prog 254 #[.pointer (some ⟨fb, 0, none⟩), .pointer (some ⟨b, 0, none⟩)] w _ := hcall
    rw [show ityp a.tag = 396 by rw [k3]; rfl]
    generalize exW (lensOf al) C vars (.node b o a l q) r = y at *
    clear hv hl h2 h3 h6 hown hi hw hwl hwr h k0 k1 k2 k3 ht hcall
    go_enter Tryz.func200, Tryz.ntmps200
    go_wp2_with fail
    refine hcall'.mono ?_
    rintro e W2 ⟨rfl, g2, x2⟩
    have HG : Hid _ := g2
    have HX : Hid _ := x2
    clear g2 x2
    go_wp2
    go_ret
    exact ⟨rfl, HG.out, HX.out⟩
  by_cases k6 : a.tag = 6
  · have hcall := h6 k6 rb fb vars value r w h hi
    have hcall' : Calls Tryz.prog 255 #[.pointer (some ⟨fb, 0, none⟩), .pointer (some ⟨b, 0, none⟩)] w _ := hcall
    rw [show ityp a.tag = 403 by rw [k6]; rfl]
    generalize exW (lensOf al) C vars (.node b o a l q) r = y at *
    clear hv hl h2 h3 h6 hown hi hw hwl hwr h k0 k1 k2 k3 k6 ht hcall
    go_enter Tryz.func200, Tryz.ntmps200
    go_wp2_with fail
    refine hcall'.mono ?_
    rintro e W2 ⟨rfl, g2, x2⟩
    have HG : Hid _ := g2
    have HX : Hid _ := x2
    clear g2 x2
    go_wp2
    go_ret
    exact ⟨rfl, HG.out, HX.out⟩
  have k45 : a.tag = 4 ∨ a.tag = 5 := by omega
  obtain ⟨hwl0, hgl⟩ := hl k45
  obtain ⟨u, p, hvl⟩ := hwl0.val (.inl rfl)
  have m3 : w.cell? ⟨b, 0, none⟩ = some (valT l) := by
    rcases k45 with k4 | k4
    · obtain ⟨cs, hc, h3⟩ := own_tag hown (n := 4) k4
      rw [cell_of_row _ _ _ _ _ _ hc]; exact h3
    · obtain ⟨cs, hc, h3⟩ := own_tag hown (n := 5) k4
      rw [cell_of_row _ _ _ _ _ _ hc]; exact h3
  have hcall := hgl rb fb vars value r w h hi.1
  rw [hvl] at m3 hcall
  rcases k45 with k4 | k5
  · have hX : exW (lensOf al) C vars (.node b o a l q) r = exW (lensOf al) C vars l r := by
      show (if a.tag = 0 then _ else _) = _
      rw [if_neg (by omega), if_neg (by omega), if_neg (by omega), if_neg (by omega), if_pos (.inl k4)]
    rw [hX, show ityp a.tag = 398 by rw [k4]; rfl]
    generalize exW (lensOf al) C vars l r = y at *
    clear hv hl h2 h3 h6 hown hi hw hwl hwr h k0 k1 k2 k3 k4 k6 ht hX hgl
    go_enter Tryz.func200, Tryz.ntmps200
    go_wp2_with fail
    refine hcall.mono ?_
    rintro e W2 ⟨rfl, g2, x2⟩
    have HG : Hid _ := g2
    have HX : Hid _ := x2
    clear g2 x2
    go_wp2
    go_ret
    exact ⟨rfl, HG.out, HX.out⟩
  · have hX : exW (lensOf al) C vars (.node b o a l q) r = ([w64 (-hd (exW (lensOf al) C vars l r).1)], (exW (lensOf al) C vars l r).2) := by
      show (if a.tag = 0 then _ else _) = _
      rw [if_neg (by omega), if_neg (by omega), if_neg (by omega), if_neg (by omega), if_neg (by omega), if_pos k5]
    rw [hX, show ityp a.tag = 401 by rw [k5]; rfl]
    generalize exW (lensOf al) C vars l r = y at *
    clear hv hl h2 h3 h6 hown hi hw hwl hwr h k0 k1 k2 k3 k5 k6 ht hX hgl
    go_enter Tryz.func200, Tryz.ntmps200
    go_wp2_with fail
    refine hcall.mono ?_
    rintro e W2 ⟨rfl, g2, x2⟩
    have HG : Hid _ := g2
    have HX : Hid _ := x2
    clear g2 x2
    go_wp2
    go_ret
    exact ⟨rfl, HG.out, HX.out⟩
end Go.Proofs.YtikffmloeifkpaaGreatDoor

/- Package walk: a comparison. -/
namespace Go.Proofs.YtikffmloeifkpaaGreatDoor
open Go.RowKit Go.Lib Go.Deep Go.ChangeMaps Go.MapKept
variable {lens : Nat → Int} {C : Cl} {vars : Nat → Int} {B pb rb fb d : Nat} {r : Rn} {w w' u : World} {value : Int} {al fl : List Tr}

/-- What is asked of a condition. -/
def PostB (B pb rb : Nat) (v : Bool) (r' : Rn) (w : World) : Ending → World → Prop := fun e w' => e = .returned (.bool v) ∧ RnW B pb rb r' w' ∧ Wx B rb w w'
def GB (f B pb d : Nat) (C : Cl) (al fl : List Tr) (val : Tr → Value) (t : Tr) : Prop :=
  ∀ rb fb vars value r w, XW B pb rb fb d al fl vars value r w → IsT w t → Calls Tryz.prog f #[.pointer (some ⟨fb, 0, none⟩), val t] w (PostB B pb rb (cdW (lensOf al) C vars t r).1 (cdW (lensOf al) C vars t r).2 w)
theorem sev_tag {b : Nat} {w : World} {a : Nd} {l r : Tr} (ho : Own w b a l r) (h : a.tag = 7) : w.cell? ⟨b, 0, none⟩ = some (.int .i64 a.op) ∧ w.cell? ⟨b, 2, none⟩ = some (valT l) ∧ w.cell? ⟨b, 3, none⟩ = some (valT r) := by
  obtain ⟨cs, hc, h0, h1, h2, h3⟩ := own_tag ho (n := 7) h
  exact ⟨by rw [cell_of_row _ _ _ _ _ _ hc]; exact h0, by rw [cell_of_row _ _ _ _ _ _ hc]; exact h2, by rw [cell_of_row _ _ _ _ _ _ hc]; exact h3⟩

set_option maxRecDepth 100000 in
set_option maxHeartbeats 8000000 in
theorem compare_x {b o : Nat} {a : Nd} {l q : Tr} (ht : a.tag = 7) (hop : 21 ≤ a.op ∧ a.op ≤ 26) (hC : COk C) (hl : Ws 0 l ∨ Ws 21 l) (hgl : GX 200 B pb d C al fl valT l) (hq : Ws 0 q ∨ Ws 21 q) (hgq : GX 200 B pb d C al fl valT q) : GB 130 B pb d C al fl ptrT (.node b o a l q) := by
  intro rb fb vars value r w h hi
  obtain ⟨u, p, hvl⟩ : isV l := hl.elim (fun h => h.val (.inl rfl)) (fun h => h.val (.inr (.inr (.inr rfl))))
  obtain ⟨u2, p2, hvq⟩ : isV q := hq.elim (fun h => h.val (.inl rfl)) (fun h => h.val (.inr (.inr (.inr rfl))))
  have hcall := hgl rb fb vars value r w h hi.1
  obtain ⟨_, m2, _⟩ := sev_tag hi.2.2 ht
  rw [hvl] at m2 hcall
  have hmn := exW_mn (lens := lensOf al) (vars := vars) hC l r
  have hX : cdW (lensOf al) C vars (.node b o a l q) r = (holds a.op (hd (exW (lensOf al) C vars l r).1) (hd (exW (lensOf al) C vars q (exW (lensOf al) C vars l r).2).1), (exW (lensOf al) C vars q (exW (lensOf al) C vars l r).2).2) := if_pos ht
  rw [hX]
  have HH : Hid (XW B pb rb fb d al fl vars value r w) := h
  have HI : Hid (IsT w (.node b o a l q)) := hi
  have HT : Hid (a.tag = 7) := ht
  show Calls Tryz.prog 130 #[.pointer (some ⟨fb, 0, none⟩), .pointer (some ⟨b, 0, none⟩)] w _
  have HGQ : Hid (∀ w2, XW B pb rb fb d al fl vars value (exW (lensOf al) C vars l r).2 w2 → IsT w2 q → Calls Tryz.prog 200 #[.pointer (some ⟨fb, 0, none⟩), .iface u2 (.pointer (some p2))] w2 (PostX B pb rb (hd (exW (lensOf al) C vars q (exW (lensOf al) C vars l r).2).1) (exW (lensOf al) C vars q (exW (lensOf al) C vars l r).2).2 w2)) := fun w2 h2 i2 => by
    have := hgq rb fb vars value _ w2 h2 i2
    rw [hvq] at this
    exact this
  clear hgl hgq h hi hX hl hq
  generalize exW (lensOf al) C vars q (exW (lensOf al) C vars l r).2 = y at *
  generalize exW (lensOf al) C vars l r = x at *
  obtain ⟨xl, r2⟩ := x
  obtain ⟨yl, r3⟩ := y
  dsimp only at *
  generalize hd xl = A at *
  generalize hd yl = D at *
  generalize hopn : a.op = op at *
  have hcases : op = 21 ∨ op = 22 ∨ op = 23 ∨ op = 24 ∨ op = 25 ∨ op = 26 := by omega
  clear hop
  rcases hcases with rfl | rfl | rfl | rfl | rfl | rfl
  · have hh : holds 21 A D = decide (A = D) := rfl
    go_enter Tryz.func130, Tryz.ntmps130
    go_wp2_with fail
    refine hcall.mono ?_
    rintro e W2 ⟨rfl, h2, x2⟩
    have X2 := HH.out.wx h2 x2 hmn
    have i2 : IsT W2 (.node b o a l q) := IsT.wx HH.out.rn x2 HI.out
    obtain ⟨_, _, n3⟩ := sev_tag i2.2.2 HT.out
    have hcall2 := HGQ.out W2 X2 i2.2.1
    rw [hvq] at n3
    have HX2 : Hid _ := X2
    have Hx2 : Hid _ := x2
    have HI2 : Hid (IsT W2 (.node b o a l q)) := i2
    clear X2 x2 i2 h2 hcall m2
    go_wp2_with fail
    refine hcall2.mono ?_
    rintro e W3 ⟨rfl, h3, x3⟩
    have i3 : IsT W3 (.node b o a l q) := IsT.wx HX2.out.rn x3 HI2.out
    obtain ⟨n0, _, _⟩ := sev_tag i3.2.2 HT.out
    rw [hopn] at n0
    have HX3 : Hid _ := Hx2.out.trans x3
    have HH3 : Hid (RnW B pb rb r3 W3) := h3
    have HA : Hid _ := hh
    clear x3 i3 h3 hcall2 n3 hh hopn
    go_wp2
    go_ret
    exact ⟨ret_bool (by rw [HA.out]; by_cases hAD : A = D <;> simp [hAD]), HH3.out, HX3.out⟩
  · have hh : holds 22 A D = decide (A ≠ D) := rfl
    go_enter Tryz.func130, Tryz.ntmps130
    go_wp2_with fail
    refine hcall.mono ?_
    rintro e W2 ⟨rfl, h2, x2⟩
    have X2 := HH.out.wx h2 x2 hmn
    have i2 : IsT W2 (.node b o a l q) := IsT.wx HH.out.rn x2 HI.out
    obtain ⟨_, _, n3⟩ := sev_tag i2.2.2 HT.out
    have hcall2 := HGQ.out W2 X2 i2.2.1
    rw [hvq] at n3
    have HX2 : Hid _ := X2
    have Hx2 : Hid _ := x2
    have HI2 : Hid (IsT W2 (.node b o a l q)) := i2
    clear X2 x2 i2 h2 hcall m2
    go_wp2_with fail
    refine hcall2.mono ?_
    rintro e W3 ⟨rfl, h3, x3⟩
    have i3 : IsT W3 (.node b o a l q) := IsT.wx HX2.out.rn x3 HI2.out
    obtain ⟨n0, _, _⟩ := sev_tag i3.2.2 HT.out
    rw [hopn] at n0
    have HX3 : Hid _ := Hx2.out.trans x3
    have HH3 : Hid (RnW B pb rb r3 W3) := h3
    have HA : Hid _ := hh
    clear x3 i3 h3 hcall2 n3 hh hopn
    go_wp2
    go_ret
    exact ⟨ret_bool (by rw [HA.out]; by_cases hAD : A = D <;> simp [hAD]), HH3.out, HX3.out⟩
  · have hh : holds 23 A D = decide (A < D) := rfl
    go_enter Tryz.func130, Tryz.ntmps130
    go_wp2_with fail
    refine hcall.mono ?_
    rintro e W2 ⟨rfl, h2, x2⟩
    have X2 := HH.out.wx h2 x2 hmn
    have i2 : IsT W2 (.node b o a l q) := IsT.wx HH.out.rn x2 HI.out
    obtain ⟨_, _, n3⟩ := sev_tag i2.2.2 HT.out
    have hcall2 := HGQ.out W2 X2 i2.2.1
    rw [hvq] at n3
    have HX2 : Hid _ := X2
    have Hx2 : Hid _ := x2
    have HI2 : Hid (IsT W2 (.node b o a l q)) := i2
    clear X2 x2 i2 h2 hcall m2
    go_wp2_with fail
    refine hcall2.mono ?_
    rintro e W3 ⟨rfl, h3, x3⟩
    have i3 : IsT W3 (.node b o a l q) := IsT.wx HX2.out.rn x3 HI2.out
    obtain ⟨n0, _, _⟩ := sev_tag i3.2.2 HT.out
    rw [hopn] at n0
    have HX3 : Hid _ := Hx2.out.trans x3
    have HH3 : Hid (RnW B pb rb r3 W3) := h3
    have HA : Hid _ := hh
    clear x3 i3 h3 hcall2 n3 hh hopn
    go_wp2
    go_ret
    exact ⟨ret_bool (by rw [HA.out]), HH3.out, HX3.out⟩
  · have hh : holds 24 A D = decide (A ≤ D) := rfl
    go_enter Tryz.func130, Tryz.ntmps130
    go_wp2_with fail
    refine hcall.mono ?_
    rintro e W2 ⟨rfl, h2, x2⟩
    have X2 := HH.out.wx h2 x2 hmn
    have i2 : IsT W2 (.node b o a l q) := IsT.wx HH.out.rn x2 HI.out
    obtain ⟨_, _, n3⟩ := sev_tag i2.2.2 HT.out
    have hcall2 := HGQ.out W2 X2 i2.2.1
    rw [hvq] at n3
    have HX2 : Hid _ := X2
    have Hx2 : Hid _ := x2
    have HI2 : Hid (IsT W2 (.node b o a l q)) := i2
    clear X2 x2 i2 h2 hcall m2
    go_wp2_with fail
    refine hcall2.mono ?_
    rintro e W3 ⟨rfl, h3, x3⟩
    have i3 : IsT W3 (.node b o a l q) := IsT.wx HX2.out.rn x3 HI2.out
    obtain ⟨n0, _, _⟩ := sev_tag i3.2.2 HT.out
    rw [hopn] at n0
    have HX3 : Hid _ := Hx2.out.trans x3
    have HH3 : Hid (RnW B pb rb r3 W3) := h3
    have HA : Hid _ := hh
    clear x3 i3 h3 hcall2 n3 hh hopn
    go_wp2
    go_ret
    exact ⟨ret_bool (by rw [HA.out]), HH3.out, HX3.out⟩
  · have hh : holds 25 A D = decide (D < A) := rfl
    go_enter Tryz.func130, Tryz.ntmps130
    go_wp2_with fail
    refine hcall.mono ?_
    rintro e W2 ⟨rfl, h2, x2⟩
    have X2 := HH.out.wx h2 x2 hmn
    have i2 : IsT W2 (.node b o a l q) := IsT.wx HH.out.rn x2 HI.out
    obtain ⟨_, _, n3⟩ := sev_tag i2.2.2 HT.out
    have hcall2 := HGQ.out W2 X2 i2.2.1
    rw [hvq] at n3
    have HX2 : Hid _ := X2
    have Hx2 : Hid _ := x2
    have HI2 : Hid (IsT W2 (.node b o a l q)) := i2
    clear X2 x2 i2 h2 hcall m2
    go_wp2_with fail
    refine hcall2.mono ?_
    rintro e W3 ⟨rfl, h3, x3⟩
    have i3 : IsT W3 (.node b o a l q) := IsT.wx HX2.out.rn x3 HI2.out
    obtain ⟨n0, _, _⟩ := sev_tag i3.2.2 HT.out
    rw [hopn] at n0
    have HX3 : Hid _ := Hx2.out.trans x3
    have HH3 : Hid (RnW B pb rb r3 W3) := h3
    have HA : Hid _ := hh
    clear x3 i3 h3 hcall2 n3 hh hopn
    go_wp2
    go_ret
    exact ⟨ret_bool (by rw [HA.out]), HH3.out, HX3.out⟩
  · have hh : holds 26 A D = decide (D ≤ A) := rfl
    go_enter Tryz.func130, Tryz.ntmps130
    go_wp2_with fail
    refine hcall.mono ?_
    rintro e W2 ⟨rfl, h2, x2⟩
    have X2 := HH.out.wx h2 x2 hmn
    have i2 : IsT W2 (.node b o a l q) := IsT.wx HH.out.rn x2 HI.out
    obtain ⟨_, _, n3⟩ := sev_tag i2.2.2 HT.out
    have hcall2 := HGQ.out W2 X2 i2.2.1
    rw [hvq] at n3
    have HX2 : Hid _ := X2
    have Hx2 : Hid _ := x2
    have HI2 : Hid (IsT W2 (.node b o a l q)) := i2
    clear X2 x2 i2 h2 hcall m2
    go_wp2_with fail
    refine hcall2.mono ?_
    rintro e W3 ⟨rfl, h3, x3⟩
    have i3 : IsT W3 (.node b o a l q) := IsT.wx HX2.out.rn x3 HI2.out
    obtain ⟨n0, _, _⟩ := sev_tag i3.2.2 HT.out
    rw [hopn] at n0
    have HX3 : Hid _ := Hx2.out.trans x3
    have HH3 : Hid (RnW B pb rb r3 W3) := h3
    have HA : Hid _ := hh
    clear x3 i3 h3 hcall2 n3 hh hopn
    go_wp2
    go_ret
    exact ⟨ret_bool (by rw [HA.out]), HH3.out, HX3.out⟩
end Go.Proofs.YtikffmloeifkpaaGreatDoor
