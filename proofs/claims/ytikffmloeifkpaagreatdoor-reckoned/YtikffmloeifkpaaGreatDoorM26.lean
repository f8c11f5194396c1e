/- The program's contracts, part 26: each says what a function of the program does, for every argument that its premises name. -/
import Derived.Test.YtikffmloeifkpaaGreatDoorM25
import Derived.Test.YtikffmloeifkpaaGreatDoorCards
import Derived.Test.YtikffmloeifkpaaGreatDoorTie
import Derived.WalkKit
import Derived.ProofKit
import Derived.OpenShut
import Derived.Deep.DeepHandedRow
/- Common to all claims: the table of the spellings, out of the row's list; a world for the witness; arguments read as before. -/
namespace Go.Proofs.YtikffmloeifkpaaGreatDoor
open Go.ChangeShapes Go.WideShapes Go.ChangeAt Go.RowKit

theorem own : ownKnob Tryz.prog.godebug = none := by kernel_rfl
theorem laidOut : laidOutB Tryz.prog = true := by kernel_rfl
theorem gTab : Tryz.prog.globalNamed "surefoot/words.spellings" = some 0 := by kernel_rfl
theorem gTabType : (Tryz.prog.globals[0]?).map (·.type) = some 274 := by kernel_rfl
theorem cellsStr : Tryz.prog.cellsOf 9 = 1 := by kernel_rfl
theorem spS_laid : (Rows.laid_surefoot_words_spellings : DataW Unit) = .agg (spS.map fun l => .lit (.string l)) := by kernel_rfl
theorem spS_at {i : Nat} (h : i < 34) : spS[i]? = some (spL i) := by
  have hl : spS.length = 34 := by decide
  unfold spL
  rw [List.getD_eq_getElem?_getD, List.getElem?_eq_getElem (by omega)]
  rfl
theorem str_eq {s : ByteArray} {l : List UInt8} (h : s.data.toList = l) : s = ⟨l.toArray⟩ := by
  subst h
  cases s
  rfl
/-- What the row's list gives. -/
theorem tab_of_laid {W : World} (h : laidMetH Tryz.prog [("surefoot/words.spellings", Rows.laid_surefoot_words_spellings)] W) : Tab W := by
  rw [MakeChecks.laidMetH_plain _ _ _ (by kernel_rfl)] at h
  obtain ⟨ps, ⟨g0, t0, cs0, f0, p0, q0, hg0, ht0, hv0, hd0, _, _⟩, _, _⟩ := h
  obtain rfl := Option.some.inj (gTab.symm.trans hg0)
  obtain rfl := Option.some.inj (gTabType.symm.trans ht0)
  obtain ⟨xs, m1, rfl, hx1, hlen, hn, hel⟩ := DataW.trod_array Tryz.underlying274 hd0
  rw [spS_laid] at hx1
  simp only [Prod.mk.injEq, DataW.agg.injEq] at hx1
  intro i hi
  have hxi : xs[i]? = some (xs[i]'(by omega)) := List.getElem?_eq_getElem (by omega)
  have hfst : (xs[i]'(by omega)).1 = .lit (.string (spL i)) := by
    have h1 := congrArg (fun l => l[i]?) hx1.1
    simp only [List.getElem?_map, spS_at hi, hxi, Option.map_some, Option.some.injEq] at h1
    exact h1.symm
  have he := hel i hi
  rw [hxi, cellsStr, Nat.mul_one] at he
  obtain ⟨s, e1, e2, _⟩ := DataW.trod_string Tryz.underlying9 he
  rw [e2] at hfst
  simp only [DataW.lit.injEq, Lit.string.injEq] at hfst
  have hs : s = sp i := str_eq hfst
  have hc := World.var?_cell hg0 hv0 i
  rw [hc, ← hs]
  have e3 : (cs0.toList.drop i)[0]? = some (.string s) := by
    cases hq : cs0.toList.drop i with
    | nil => rw [hq] at e1; simp at e1
    | cons a r =>
      rw [hq] at e1
      simp only [List.take_succ_cons, List.take_zero, List.cons.injEq, and_true] at e1
      rw [e1]; rfl
  rw [List.getElem?_drop] at e3
  simpa using e3
/-- A world for the witness. -/
noncomputable def laidWorld (os : Os) : World :=
  { World.holding Tryz.prog os ⟨#[], #[], []⟩ with heap := (World.holding Tryz.prog os ⟨#[], #[], []⟩).heap.modify 0 fun
      | .cells _ t frozen => .cells (spS.map fun l => Value.string ⟨l.toArray⟩).toArray t frozen
      | o => o }
/-- An argument that reads as it did. -/
theorem still_reads {H : Type} {enc : TypeId × Value → H} {t : TypeId} (hr : Tryz.prog.readableRec t = true) (hrow : t < Tryz.prog.types.size) {W W' : World} {v : Value} {d : DataW H} {p : List MemPlace} (h : DataW.Trod enc Tryz.prog W 0 (fun _ => true) true t v d p) (hb : Below W.heap.size W W') (hlt : ∀ x ∈ p, x.block < W.heap.size) :
    DataW.Trod enc Tryz.prog W' 0 (fun b => decide (b < W.heap.size)) true t v d p := Below.trod laidOut hr hrow h hb hlt
end Go.Proofs.YtikffmloeifkpaaGreatDoor

/- Closed facts of the program, a theorem each. -/
namespace Go.Proofs.YtikffmloeifkpaaGreatDoor.facts
open Go.ChangeShapes Go.WideShapes Go.ChangeAt Go.RowKit

theorem laidOut : (laidOutB Tryz.prog) = true := by kernel_rfl
theorem mapsRowed : (mapsRowed Tryz.prog) = true := by kernel_rfl
theorem pstops : (Tryz.prog.stops == []) = true := by kernel_rfl
theorem pknobs : (Tryz.prog.stopKnobs == []) = true := by kernel_rfl
theorem plainKeys : (Rows.lessRow.plainKeys == Tryz.prog.plainKeys) = true := by kernel_rfl
theorem stopsHeard : (Tryz.prog.stopsHeard) = true := by kernel_rfl
theorem mayEnter : (Tryz.prog.mayEnter) = true := by kernel_rfl
theorem lifted : (Rows.lessRow.lifted == Tryz.prog.liftsFinal) = true := by kernel_rfl
theorem make : (Tryz.prog.make == some Rows.lessRow.make) = true := by kernel_rfl
end Go.Proofs.YtikffmloeifkpaaGreatDoor.facts
