/- The program's contracts, part 25: each says what a function of the program does, for every argument that its premises name. -/
import Derived.Test.YtikffmloeifkpaaGreatDoorM24
import Derived.Laws.CopyOwn
/- Package walk: Run. -/
namespace Go.Proofs.YtikffmloeifkpaaGreatDoor
open Go.RowKit Go.Lib Go.Deep Go.ChangeMaps Go.MapKept

/-- Arguments, where they lie. -/
def ArgW (w : World) (va : Value) (args : List Int) : Prop := ∃ sp cap, va = .slice sp args.length cap ∧ (0 < args.length → ∃ ad, sp = some ad ∧ ∀ j v, (args.map (Value.int .i64))[j]? = some v → w.cell? (ad.add j) = some v)
/-- What Walk leaves. -/
def PostRun (x : Rs4) (w : World) : Ending → World → Prop := fun e w' => ∃ vO, e = .returned (.agg #[.int .i64 x.fin, .int .i64 x.value, .int .i64 x.site, vO]) ∧ w'.ownsRow w.heap.size 2 1 vO x.outs.length (x.outs.map (Value.int .i64)) ∧ Below w.heap.size w w'
def isZ (v : Option Value) : Bool := match v with
  | some (.int .i64 0) => true
  | _ => false
theorem isZ_eq {v : Option Value} (h : isZ v = true) : v = some (.int .i64 0) := by
  unfold isZ at h
  split at h
  · rfl
  · cases h
theorem zero_run : ∀ i, i < 389 → isZ Tryz.zeroCells162[i + 1]? = true := by decide +kernel
theorem zero_rest : Tryz.zeroCells162[0]? = some (.pointer none) ∧ Tryz.zeroCells162[390]? = some (.slice none 0 0) := by constructor <;> kernel_rfl
/-- The run's block, new. -/
theorem run0_c {pb n : Nat} {cs : Array Value} (h : cs = (Tryz.zeroCells162.setIfInBounds 0 (Value.pointer (some ⟨pb, 0, none⟩))).setIfInBounds 385 (Value.int .i64 n)) : RnC pb ⟨fun _ => 0, n, 0, 0, 0, []⟩ (.slice none 0 0) cs := by
  have z : ∀ i, i < 389 → Tryz.zeroCells162[i + 1]? = some (.int .i64 0) := fun i hi => isZ_eq (zero_run i hi)
  obtain ⟨z0, z1⟩ := zero_rest
  rw [h]
  exact ⟨at_ne (by omega) (at_eq z0), fun i hi => at_ne (by omega) (at_ne (by omega) (z i (by omega))), at_eq (at_ne (by omega) (z 384 (by omega))), at_ne (by omega) (at_ne (by omega) (z 385 (by omega))), at_ne (by omega) (at_ne (by omega) (z 386 (by omega))), at_ne (by omega) (at_ne (by omega) (z 387 (by omega))), at_ne (by omega) (at_ne (by omega) (z 388 (by omega))), at_ne (by omega) (at_ne (by omega) z1)⟩
theorem PgX.next {pb : Nat} {al fl : List Tr} {w w' : World} (h : PgX pb al fl w) (hw : ∀ i, i < w.heap.size → w'.heap[i]? = w.heap[i]?) : PgX pb al fl w' := by
  have off : ∀ {j : Nat} {c2 : Array Value} {ty : TypeId}, w.heap[j]? = some (.cells c2 ty (0, 0)) → w'.heap[j]? = w.heap[j]? := fun hj => hw _ (Array.getElem?_eq_some_iff.1 hj).1
  obtain ⟨it, vA, vF, m, vS, H, hp, hA, hF⟩ := h.prog
  refine ⟨⟨it, vA, vF, m, vS, H, (off hp).trans hp, own_move hA (fun j hj => ?_), ⟨own_move hF.row (fun j hj => ?_), fun e he => ?_⟩⟩, fun e he => ?_, h.few, fun e he => IsT.next hw (h.fns e he)⟩
  · obtain ⟨⟨c, hc⟩, _⟩ := own_typ hA hj
    exact off hc
  · obtain ⟨⟨c, hc⟩, _⟩ := own_typ hF.row hj
    exact off hc
  · obtain ⟨b, o, a, l, x, y, z, p, q, e1, e2, e3⟩ := hF.own e he
    exact ⟨b, o, a, l, x, y, z, p, q, e1, At.same e2 (hw _ (At.lt e2)), e3⟩
  · obtain ⟨b, o, a, l, q, e1, e2, e3⟩ := h.arr e he
    exact ⟨b, o, a, l, q, e1, At.same e2 (hw _ (At.lt e2)), e3⟩
theorem RnW.past {B pb rb fb : Nat} {r : Rn} {w w' : World} {c : Array Value} (h : RnW B pb rb r w) (hf : w.heap[fb]? = some (.cells c 165 (0, 0))) (hw : ∀ i, i < w.heap.size → i ≠ fb → w'.heap[i]? = w.heap[i]?) : RnW B pb rb r w' := by
  obtain ⟨cs, vO, hc, h1, h2⟩ := h.ex
  exact ⟨⟨cs, vO, (hw _ (Array.getElem?_eq_some_iff.1 hc).1 (ne_typ hc hf (by decide))).trans hc, h1, own_move h2 (fun k hk => by
    obtain ⟨⟨c2, hck⟩, _⟩ := own_typ h2 hk
    exact hw _ (Array.getElem?_eq_some_iff.1 hck).1 (ne_typ hck hf (by decide)))⟩, h.ge, h.few⟩
/-- The arguments, in main's frame. -/
theorem frame_args (rb : Nat) (xs : List Int) (h : xs.length ≤ 12) : FmC rb (args0 xs) 0 (splice (.pointer (some ⟨rb, 0, none⟩) :: List.replicate 13 (Value.int .i64 0)) 1 (xs.map (Value.int .i64))).toArray := by
  have key : ∀ i, i < 13 → (splice (.pointer (some ⟨rb, 0, none⟩) :: List.replicate 13 (Value.int .i64 0)) 1 (xs.map (Value.int .i64))).toArray[i + 1]? = some (.int .i64 (args0 xs i)) := by
    intro i hi
    unfold splice args0
    simp only [List.getElem?_toArray, List.take_succ_cons, List.take_zero, List.singleton_append, List.getElem?_cons_succ, List.getElem?_append, List.length_map, List.getD_eq_getElem?_getD]
    by_cases hx : i < xs.length
    · rw [if_pos hx, List.getElem?_map, List.getElem?_eq_getElem hx]; rfl
    · rw [if_neg hx, List.getElem?_eq_none (l := xs) (by omega)]
      rw [Nat.add_comm 1 xs.length, List.drop_succ_cons, List.getElem?_drop, List.getElem?_replicate, if_pos (by omega)]
      rfl
  refine ⟨?_, fun i hi => key i (by omega), ?_⟩
  · unfold splice; rfl
  · have := key 12 (by omega)
    rw [this]
    unfold args0
    rw [List.getD_eq_getElem?_getD, List.getElem?_eq_none (by omega)]
    rfl
theorem heap_four {w : World} {k : Nat} {a b c d a' b' c' d' : Value} {t : TypeId} (h : w.heap[k]? = some (.cells #[a, b, c, d] t (0, 0))) : ((((w.setCell ⟨k, 0, none⟩ a').setCell ⟨k, 1, none⟩ b').setCell ⟨k, 2, none⟩ c').setCell ⟨k, 3, none⟩ d').heap[k]? = some (.cells #[a', b', c', d'] t (0, 0)) :=
  heap_set (o := 3) d' (heap_set (o := 2) c' (heap_set (o := 1) b' (heap_set (o := 0) a' h)))
theorem set_four {w : World} {k : Nat} {a b c d : Value} : ∀ i, i ≠ k → ((((w.setCell ⟨k, 0, none⟩ a).setCell ⟨k, 1, none⟩ b).setCell ⟨k, 2, none⟩ c).setCell ⟨k, 3, none⟩ d).heap[i]? = w.heap[i]? := fun _ hi =>
  (((Below.heap_setCell _ _ _ _ hi).trans (Below.heap_setCell _ _ _ _ hi)).trans (Below.heap_setCell _ _ _ _ hi)).trans (Below.heap_setCell _ _ _ _ hi)
theorem cells_four {w : World} {k : Nat} {a b c d : Value} {t : TypeId} (h : w.heap[k]? = some (.cells #[a, b, c, d] t (0, 0))) : w.cell? ⟨k, 0, none⟩ = some a ∧ w.cell? ⟨k, 1, none⟩ = some b ∧ w.cell? ⟨k, 2, none⟩ = some c ∧ w.cell? ⟨k, 3, none⟩ = some d ∧ ∀ o, w.frozen? ⟨k, o, none⟩ = false :=
  ⟨by rw [cell_of_row _ _ _ _ _ _ h]; rfl, by rw [cell_of_row _ _ _ _ _ _ h]; rfl, by rw [cell_of_row _ _ _ _ _ _ h]; rfl, by rw [cell_of_row _ _ _ _ _ _ h]; rfl, fun o => by simp [World.frozen?, h]⟩
theorem RnW.four {B pb rb : Nat} {r : Rn} {w : World} (h : RnW B pb rb r w) : ∃ ao n cp, w.cell? ⟨rb, 387, none⟩ = some (.int .i64 r.fin) ∧ w.cell? ⟨rb, 388, none⟩ = some (.int .i64 0) ∧ w.cell? ⟨rb, 389, none⟩ = some (.int .i64 r.site) ∧ w.cell? ⟨rb, 390, none⟩ = some (.slice ao n cp) ∧ w.ownsRow B 2 1 (.slice ao n cp) r.outs.length (r.outs.map (Value.int .i64)) := by
  obtain ⟨cs, vO, hc, h1, h2⟩ := h.ex
  obtain ⟨ao, cp, rfl, _⟩ := slice_any h2
  exact ⟨ao, _, cp, by rw [cell_of_row _ _ _ _ _ _ hc]; exact h1.fin, by rw [cell_of_row _ _ _ _ _ _ hc]; exact h1.value, by rw [cell_of_row _ _ _ _ _ _ hc]; exact h1.site, by rw [cell_of_row _ _ _ _ _ _ hc]; exact h1.outs, h2⟩
theorem finish_run {w W : World} {x : Rs4} {vO a b c d : Value} (hk : W.heap[w.heap.size]? = some (.cells #[a, b, c, d] 42 (0, 0))) (hB : Below w.heap.size w W) (ho : W.ownsRow w.heap.size 2 1 vO x.outs.length (x.outs.map (Value.int .i64))) :
    PostRun x w (.returned (.agg #[.int .i64 x.fin, .int .i64 x.value, .int .i64 x.site, vO])) ((((W.setCell ⟨w.heap.size, 0, none⟩ (.int .i64 x.fin)).setCell ⟨w.heap.size, 1, none⟩ (.int .i64 x.value)).setCell ⟨w.heap.size, 2, none⟩ (.int .i64 x.site)).setCell ⟨w.heap.size, 3, none⟩ vO) :=
  ⟨vO, rfl, own_move ho (fun k hk2 => by
    obtain ⟨⟨c2, hck⟩, _⟩ := own_typ ho hk2
    exact set_four k (ne_typ hck hk (by decide))),
    (((hB.setCell (p := ⟨w.heap.size, 0, none⟩) (Nat.le_refl _) _).setCell (p := ⟨w.heap.size, 1, none⟩) (Nat.le_refl _) _).setCell (p := ⟨w.heap.size, 2, none⟩) (Nat.le_refl _) _).setCell (p := ⟨w.heap.size, 3, none⟩) (Nat.le_refl _) _⟩
theorem Wx.below {B rb : Nat} {w u w' : World} (h : Wx B rb u w') (hu : Below B w u) (hw : B ≤ w.heap.size) (hr : B < rb) : Below B w w' :=
  ⟨h.os.trans hu.os, h.tape.trans hu.tape, h.output.trans hu.output, Nat.le_trans hu.size h.size, fun k hk => (h.low k hk (by omega) (by have := hu.size; omega)).trans (hu.block k hk)⟩
theorem Wy.below {B rb fb : Nat} {w u w' : World} (h : Wy B rb fb u w') (hu : Below B w u) (hw : B ≤ w.heap.size) (hr : B < rb) (hf : B < fb) : Below B w w' :=
  ⟨h.os.trans hu.os, h.tape.trans hu.tape, h.output.trans hu.output, Nat.le_trans hu.size h.size, fun k hk => (h.low k hk (by omega) (by omega) (by have := hu.size; omega)).trans (hu.block k hk)⟩
theorem copy_any {P : Program} (w : World) (dT sT ty elem : TypeId) (hu : P.underlying dT = some (.slice elem)) (hsz : (P.info? elem).map (·.size) = some 1) (g off dLen dCap : Nat) (sp : Option Addr) (sLen sCap : Nat)
    (cur : List Value) (t : TypeId) (hg : w.heap[g]? = some (.cells cur.toArray t (0, 0))) (cs : List Value) (hn : cs.length = Nat.min sLen dLen) (hpos : 0 < cs.length → ∃ ad, sp = some ad ∧ ∀ j v, cs[j]? = some v → w.cell? (ad.add j) = some v)
    (hfit : off + cs.length ≤ cur.length) (h1 : ∀ v ∈ cs, v.oneCell' = true) :
    ∃ w2, (Builtin.copy_ #[dT, sT] ty #[.slice (some ⟨g, off, none⟩) dLen dCap, .slice sp sLen sCap]).run P w = .ok (goInt cs.length) w2 ∧ w2.heap[g]? = some (.cells (splice cur off cs).toArray t (0, 0)) ∧ Below g w w2 ∧ w2.heap.size = w.heap.size := by
  by_cases h0 : cs.length = 0
  · obtain rfl : cs = [] := List.eq_nil_of_length_eq_zero h0
    exact ⟨w, run_copy_none (P := P) w dT sT ty elem _ sp dLen dCap sLen sCap hu hsz (by simpa using hn.symm), by simpa [splice] using hg, Below.refl _ _, rfl⟩
  · obtain ⟨ad, rfl, hsrc⟩ := hpos (by omega)
    exact ⟨_, run_copy_row (P := P) w dT sT ty elem g off dLen dCap ad sLen sCap cur.toArray t cs hu hsz hg hn hsrc (by simpa using hfit) h1, by simpa [splice] using setRow_heap w g _ _ t _ hg, below_setRow (Below.refl _ _) (Nat.le_refl _) _, by simp [World.setRow]⟩
variable {par : Nat → Option Nat} {na : Nat} {al fl : List Tr}
set_option maxRecDepth 100000 in
set_option maxHeartbeats 16000000 in
theorem Run_any (hF : FlOk par na al fl) {e0 : Tr} {mi : Nat} (he : fl[mi]? = some e0) (pb : Nat) (va : Value) (args : List Int) (fuel : Int) (w : World) (hp : PgX pb al fl w) (hm : w.cell? ⟨pb, 3, none⟩ = some (.int .i64 (mi : Int))) (ha : ArgW w va args) (h6 : ∀ b o a l q, e0 = .node b o a l q → Ws 6 l) (h4 : nPar e0 ≤ 12) :
    Calls Tryz.prog 46 #[.pointer (some ⟨pb, 0, none⟩), va, .int .i64 fuel] w (PostRun (runX al fl e0 args fuel) w) := by
  obtain ⟨sp, cap, rfl, hsrc⟩ := ha
  obtain ⟨f, hf⟩ : ∃ f : Nat, min (max fuel 0) 20000 = (f : Int) := ⟨(min (max fuel 0) 20000).toNat, by omega⟩
  have hlt : mi < fl.length := by
    rcases Nat.lt_or_ge mi fl.length with h | h
    · exact h
    · rw [List.getElem?_eq_none h] at he; cases he
  have hmI : 0 ≤ (mi : Int) ∧ (mi : Int) < (fl.length : Int) := by omega
  -- the result, the run
  obtain ⟨o0, ho0⟩ : ∃ o0 : Obj, o0 = .cells #[.int .i64 0, .int .i64 0, .int .i64 0, .slice none 0 0] 42 := ⟨_, rfl⟩
  obtain ⟨c1, hc1⟩ : ∃ c1 : Array Value, c1 = (Tryz.zeroCells162.setIfInBounds 0 (Value.pointer (some ⟨pb, 0, none⟩))).setIfInBounds 385 (Value.int .i64 f) := ⟨_, rfl⟩
  have sA : (w.alloc o0).heap.size = w.heap.size + 1 := by simp
  have sB : ((w.alloc o0).alloc (.cells c1 162)).heap.size = w.heap.size + 2 := by simp
  have bB : ∀ i, i < w.heap.size → ((w.alloc o0).alloc (.cells c1 162)).heap[i]? = w.heap[i]? := fun i hi => (Below.heap_alloc _ _ _ (by omega)).trans (Below.heap_alloc _ _ _ hi)
  have kB : ((w.alloc o0).alloc (.cells c1 162)).heap[w.heap.size]? = some (.cells #[.int .i64 0, .int .i64 0, .int .i64 0, .slice none 0 0] 42 (0, 0)) := by
    refine (Below.heap_alloc _ _ _ (by omega)).trans ?_
    rw [ho0]
    exact heap_alloc_new w _
  have rB : RnW w.heap.size pb (w.heap.size + 1) ⟨fun _ => 0, f, 0, 0, 0, []⟩ ((w.alloc o0).alloc (.cells c1 162)) := by
    refine ⟨⟨c1, .slice none 0 0, ?_, run0_c hc1, World.ownsRow_nil _ _ _ _⟩, Nat.le_succ _, by show f ≤ 20000; omega, Nat.zero_le _, Nat.zero_le _⟩
    rw [← sA]
    exact heap_alloc_new _ _
  have BB : Below w.heap.size w ((w.alloc o0).alloc (.cells c1 162)) := ((Below.refl _ _).alloc (Nat.le_refl _) _).alloc (by omega) _
  go_enter Tryz.func46, Tryz.ntmps46
  go_upto_region 2 with fail
  rw [← ho0, ← hc1]
  generalize (w.alloc o0).alloc (.cells c1 162) = wB at *
  have rC : RnW w.heap.size pb (w.heap.size + 1) ⟨fun _ => 0, f, 0, 0, -1, []⟩ (wB.setCell ⟨w.heap.size + 1, 389, none⟩ (.int .i64 (-1))) := rB.put ⟨rB.few.1, rB.few.2.1⟩ rfl (fun cs vO hc => hc.setSite (-1))
  have sC : (wB.setCell ⟨w.heap.size + 1, 389, none⟩ (.int .i64 (-1))).heap.size = w.heap.size + 2 := by simp [World.setCell, sB]
  have bC : ∀ i, i < w.heap.size → (wB.setCell ⟨w.heap.size + 1, 389, none⟩ (.int .i64 (-1))).heap[i]? = w.heap[i]? := fun i hi => (Below.heap_setCell _ _ _ _ (by show i ≠ w.heap.size + 1; omega)).trans (bB i hi)
  have kC := (Below.heap_setCell wB ⟨w.heap.size + 1, 389, none⟩ (.int .i64 (-1)) w.heap.size (by show w.heap.size ≠ w.heap.size + 1; omega)).trans kB
  have BC : Below w.heap.size w (wB.setCell ⟨w.heap.size + 1, 389, none⟩ (.int .i64 (-1))) := BB.setCell (p := ⟨w.heap.size + 1, 389, none⟩) (Nat.le_succ _) _
  obtain ⟨_, _, _, _, g0, z0⟩ := rB.cells
  have pC := hp.next bC
  have HPW : Hid (PgX pb al fl w) := hp
  have hpl : pb < w.heap.size := World.block_lt_of_cell? w _ hm
  have pm := (World.cell?_of_block (a := ⟨pb, 3, none⟩) (bC pb hpl)).trans hm
  go_upto_region 3 with fail
  generalize wB.setCell ⟨w.heap.size + 1, 389, none⟩ (.int .i64 (-1)) = wC at *
  obtain ⟨it, vA, vF, mm, vS, H9, hpc, _, hFn⟩ := pC.prog
  obtain ⟨g9, cp9, cb, o9, a9, l9, x9, y9, z9, pw, qb, hvF, hgj, e9, hfw⟩ := hFn.get he
  have pF : wC.cell? ⟨pb, 2, none⟩ = some (.slice (some ⟨g9, 0, none⟩) fl.length cp9) := by
    rw [cell_of_row _ _ _ _ _ _ hpc, ← hvF]; rfl
  have HPC : Hid _ := pC
  have HRC : Hid _ := rC
  have HBC : Hid _ := BC
  have HKC : Hid _ := kC
  have HFW : Hid (At wC cb 105 (fun cs => cs[3]? = some (valT l9) ∧ cs[4]? = some (valT (whereOf e0)) ∧ cs[5]? = some (valT (bodyOf e0)))) := by
    obtain ⟨cs, hc, _, h3, h4, h5, _⟩ := hfw
    rw [Hid, e9]
    exact ⟨cs, hc, h3, h4, h5⟩
  have HE9 : Hid (e0 = .node cb o9 a9 l9 (.node x9 y9 z9 pw qb)) := e9
  have HBW : Hid (∀ i, i < w.heap.size → wC.heap[i]? = w.heap[i]?) := bC
  clear rB sB bB kB BB g0 z0 rC kC BC bC pC hpc hFn hvF hfw e9 hp hm sA ho0 hc1
  go_quiet (fail)
  go_upto_region 5 with fail
  -- main's frame
  obtain ⟨cur, hcur⟩ : ∃ cur : List Value, cur = .pointer (some ⟨w.heap.size + 1, 0, none⟩) :: List.replicate 13 (Value.int .i64 0) := ⟨_, rfl⟩
  obtain ⟨o2, ho2⟩ : ∃ o2 : Obj, o2 = .cells #[.pointer (some ⟨w.heap.size + 1, 0, none⟩), .int .i64 0, .int .i64 0, .int .i64 0, .int .i64 0, .int .i64 0, .int .i64 0, .int .i64 0, .int .i64 0, .int .i64 0, .int .i64 0, .int .i64 0, .int .i64 0, .int .i64 0] 165 := ⟨_, rfl⟩
  have sD : ((wC.drewN nq).alloc o2).heap.size = w.heap.size + 3 := by simp [sC]
  have nD : ∀ i, i < w.heap.size + 2 → ((wC.drewN nq).alloc o2).heap[i]? = wC.heap[i]? := fun i hi => Below.heap_alloc (wC.drewN nq) _ _ (by show i < wC.heap.size; omega)
  have fD : ((wC.drewN nq).alloc o2).heap[w.heap.size + 2]? = some (.cells cur.toArray 165 (0, 0)) := by
    have := heap_alloc_new (wC.drewN nq) o2
    rw [show (wC.drewN nq).heap.size = w.heap.size + 2 from sC, ho2] at this
    rw [hcur, ho2]
    exact this
  have rD : RnW w.heap.size pb (w.heap.size + 1) ⟨fun _ => 0, f, 0, 0, -1, []⟩ ((wC.drewN nq).alloc o2) := (HRC.out.drewN nq).alloc o2
  have kD : ((wC.drewN nq).alloc o2).heap[w.heap.size]? = some (.cells #[.int .i64 0, .int .i64 0, .int .i64 0, .slice none 0 0] 42 (0, 0)) := (nD _ (by omega)).trans HKC.out
  have bD : Below w.heap.size w ((wC.drewN nq).alloc o2) := Below.alloc (show Below w.heap.size w (wC.drewN nq) from ⟨HBC.out.1, HBC.out.2, HBC.out.3, HBC.out.4, HBC.out.5⟩) (by show w.heap.size ≤ wC.heap.size; omega) _
  rw [← ho2]
  generalize (wC.drewN nq).alloc o2 = wD at *
  obtain ⟨xs, hxs⟩ : ∃ xs, xs = (args.take 12).map (Value.int .i64) := ⟨_, rfl⟩
  have hxl : xs.length = Nat.min args.length 12 := by rw [hxs, List.length_map, List.length_take, Nat.min_comm]
  have hxp : 0 < xs.length → ∃ ad, sp = some ad ∧ ∀ j v, xs[j]? = some v → wD.cell? (ad.add j) = some v := fun h0 => by
    obtain ⟨ad, e1, e2⟩ := hsrc (by rw [hxl] at h0; have : Nat.min args.length 12 ≤ args.length := Nat.min_le_left _ _; omega)
    refine ⟨ad, e1, fun j v hj => ?_⟩
    have hj2 : (args.map (Value.int .i64))[j]? = some v := by
      rw [hxs, List.map_take, List.getElem?_take] at hj
      split at hj
      · exact hj
      · cases hj
    have hc := e2 j v hj2
    have hl := World.block_lt_of_cell? w _ hc
    exact (World.cell?_of_block ((nD _ (by omega)).trans (HBW.out _ hl))).trans hc
  have hxc : ∀ v ∈ xs, v.oneCell' = true := fun v hv => by
    rw [hxs, List.mem_map] at hv
    obtain ⟨x, _, rfl⟩ := hv
    rfl
  have hfit : 1 + xs.length ≤ cur.length := by
    rw [hcur, hxl]
    have : Nat.min args.length 12 ≤ 12 := Nat.min_le_right _ _
    simp only [List.length_cons, List.length_replicate]
    omega
  obtain ⟨w2, hcopy, g2, b2, s2⟩ := copy_any (P := Tryz.prog) wD 30 30 3 2 Tryz.underlying30 (by kernel_rfl) (w.heap.size + 2) 1 12 12 sp args.length cap cur 165 fD xs hxl hxp hfit hxc
  have hgo : goInt xs.length = .int .i64 (xs.length : Int) := rfl
  rw [hgo] at hcopy
  -- behind it
  have p2 : ∀ i, i < w.heap.size + 3 → i ≠ w.heap.size + 2 → w2.heap[i]? = wD.heap[i]? := fun i h1 h2 => b2.block i (by omega)
  have r2 : RnW w.heap.size pb (w.heap.size + 1) ⟨fun _ => 0, f, 0, 0, -1, []⟩ w2 := rD.past fD (fun i h1 h2 => p2 i (by omega) h2)
  have k2 : w2.heap[w.heap.size]? = some (.cells #[.int .i64 0, .int .i64 0, .int .i64 0, .slice none 0 0] 42 (0, 0)) := (b2.block _ (by omega)).trans kD
  have m2 : FmW (w.heap.size + 1) (w.heap.size + 2) (args0 (args.take 12)) 0 w2 := by
    refine ⟨_, g2, ?_⟩
    rw [hcur, hxs]
    exact frame_args _ _ (by rw [List.length_take]; omega)
  have q2 : PgX pb al fl w2 := HPW.out.next (fun i hi => (b2.block i (by omega)).trans ((nD i (by omega)).trans (HBW.out i hi)))
  have BB2 : Below w.heap.size w w2 := bD.trans (b2.mono (by omega))
  have f2 : At w2 cb 105 (fun cs => cs[3]? = some (valT l9) ∧ cs[4]? = some (valT (whereOf e0)) ∧ cs[5]? = some (valT (bodyOf e0))) := by
    obtain ⟨cs, hc, h3⟩ := HFW.out
    exact ⟨cs, by
      have hl := (Array.getElem?_eq_some_iff.1 hc).1
      exact (b2.block cb (by omega)).trans ((nD cb (by omega)).trans hc), h3⟩
  have hw6 : Ws 6 l9 := h6 _ _ _ _ _ HE9.out
  obtain ⟨ao, cpp, hv6⟩ := hw6.lstval (.inr (.inr (.inr (.inl rfl))))
  have hnp : nPar e0 = lenV l9 := by rw [HE9.out]; rfl
  have c3 : w2.cell? ⟨cb, 3, none⟩ = some (.slice ao (lenV l9) cpp) := by
    obtain ⟨cs, hc, h3, _⟩ := f2
    rw [cell_of_row _ _ _ _ _ _ hc, ← hv6]; exact h3
  have hX : runX al fl e0 args fuel = (if args.length ≠ nPar e0 ∨ tkW (args0 args) (whereOf e0) = false then ⟨5, 0, -1, []⟩ else (if (enD (lensOf al) fl (f + 1) e0 (args0 args) ⟨fun _ => 0, f, 0, 0, -1, []⟩).2.fin = 0 then ⟨1, (enD (lensOf al) fl (f + 1) e0 (args0 args) ⟨fun _ => 0, f, 0, 0, -1, []⟩).1, (enD (lensOf al) fl (f + 1) e0 (args0 args) ⟨fun _ => 0, f, 0, 0, -1, []⟩).2.site, (enD (lensOf al) fl (f + 1) e0 (args0 args) ⟨fun _ => 0, f, 0, 0, -1, []⟩).2.outs⟩ else ⟨(enD (lensOf al) fl (f + 1) e0 (args0 args) ⟨fun _ => 0, f, 0, 0, -1, []⟩).2.fin, 0, (enD (lensOf al) fl (f + 1) e0 (args0 args) ⟨fun _ => 0, f, 0, 0, -1, []⟩).2.site, (enD (lensOf al) fl (f + 1) e0 (args0 args) ⟨fun _ => 0, f, 0, 0, -1, []⟩).2.outs⟩)) := by
    unfold runX
    rw [hf, Int.toNat_natCast]
    rfl
  have HXX : Hid _ := hX
  have HNP : Hid (nPar e0 = lenV l9) := hnp
  have h4l : lenV l9 ≤ 12 := by omega
  have HBB : Hid _ := BB2
  have HR2 : Hid _ := r2
  have HK2 : Hid _ := k2
  have HM2 : Hid _ := m2
  have HQ2 : Hid _ := q2
  have HF2 : Hid _ := f2
  clear hX BB2 r2 k2 m2 q2 f2 p2 g2 b2 fD kD rD bD nD hxl hxp hxc hfit hcur hxs ho2 hv6 hsrc hnp sC sD
  by_cases hlen : args.length = lenV l9
  · have tl : ((args.length : Int) != (lenV l9 : Int)) = false := by simp; omega
    have hta : args.take 12 = args := List.take_of_length_le (by omega)
    have X2 : XW w.heap.size pb (w.heap.size + 1) (w.heap.size + 2) (f + 1) al fl (args0 args) 0 ⟨fun _ => 0, f, 0, 0, -1, []⟩ w2 := ⟨HR2.out, by rw [← hta]; exact HM2.out, HQ2.out, ⟨Nat.zero_le _, by show 0 + f ≤ 20000; omega, Nat.le_succ _⟩⟩
    have hmem := List.mem_of_getElem? he
    have i2 := HQ2.out.fns e0 hmem
    have iw : IsT w2 (whereOf e0) ∧ IsT w2 (bodyOf e0) := by
      rw [HE9.out] at i2 ⊢
      exact ⟨i2.2.1.1, i2.2.1.2.1⟩
    have c4 : w2.cell? ⟨cb, 4, none⟩ = some (valT (whereOf e0)) := by
      obtain ⟨cs, hc, _, h4, _⟩ := HF2.out
      rw [cell_of_row _ _ _ _ _ _ hc]; exact h4
    have htk := takes_x (hF.fns e0 hmem).1 (takes_all (B := w.heap.size) (pb := pb) hF (f + 1) hmem) w2 X2 iw.1 c4
    have HX2 : Hid _ := X2
    have HIB : Hid (IsT w2 (bodyOf e0)) := iw.2
    have hEn := enter_all (B := w.heap.size) (pb := pb) hF (f + 1) e0 hmem
    have HEN : Hid _ := hEn
    clear X2 iw i2 c4 hEn hta
    cases hk : tkW (args0 args) (whereOf e0)
    · have HX1 : Hid (runX al fl e0 args fuel = ⟨5, 0, -1, []⟩) := by rw [Hid, HXX.out, if_pos (.inr hk)]
      rw [hk] at htk
      clear hk hlen h4l h4
      go_wp2_with fail
      refine htk.mono ?_
      rintro e W3 ⟨rfl, h3, x3⟩
      have hst := stop_any 5 W3 h3
      have HK3 : Hid _ := x3.block _ _ _ HK2.out (by omega) (by decide)
      have HB3 : Hid _ := x3.below HBB.out (Nat.le_refl _) (Nat.lt_succ_self _)
      clear h3 x3 htk
      go_wp2_with fail
      refine hst.mono ?_
      rintro e W4 ⟨rfl, h4, x4⟩
      have k4 := x4.block _ _ _ HK3.out (by omega) (by decide)
      have b4 := x4.below HB3.out (Nat.le_refl _) (Nat.lt_succ_self _)
      have h4 : RnW w.heap.size pb (w.heap.size + 1) ⟨fun _ => 0, f, 0, 5, -1, []⟩ W4 := h4
      obtain ⟨so, sn, sc, e0', e1, e2, e3, hown⟩ := h4.four
      dsimp only at e0' e2
      obtain ⟨y0, y1, y2, y3, yz⟩ := cells_four k4
      obtain ⟨x0, x1, x2, x3, _⟩ := cells_four (heap_four (a' := .int .i64 5) (b' := .int .i64 0) (c' := .int .i64 (-1)) (d' := .slice so sn sc) k4)
      have FIN : Hid _ := finish_run (x := ⟨5, 0, -1, []⟩) k4 b4 hown
      clear h4 x4 k4 b4 hown
      go_wp2
      refine bodyPost_ret (v := .agg #[.int .i64 5, .int .i64 0, .int .i64 (-1), .slice so sn sc]) (by simp [results, Tryz.results46, go_sem, x0, x1, x2, x3]) rfl ?_
      rw [HX1.out]
      exact FIN.out
    · have HX1 : Hid _ := HXX.out
      have hno : ¬ (args.length ≠ nPar e0 ∨ tkW (args0 args) (whereOf e0) = false) := by
        rw [hk, HNP.out]; simp [hlen]
      have HX1 : Hid (runX al fl e0 args fuel = _) := HXX.out.trans (if_neg hno)
      rw [hk] at htk
      generalize hx : enD (lensOf al) fl (f + 1) e0 (args0 args) ⟨fun _ => 0, f, 0, 0, -1, []⟩ = x at *
      clear hk hlen h4l h4 hno
      go_wp2_with fail
      refine htk.mono ?_
      rintro e W3 ⟨rfl, h3, x3⟩
      have X3 := HX2.out.wx h3 x3 (Mn.refl _)
      have b3 : IsT W3 (bodyOf e0) := IsT.wx HX2.out.rn x3 HIB.out
      obtain ⟨cs7, hc7, _, _, g5⟩ := At.wx HF2.out HX2.out.rn x3 (by decide) (by decide)
      have hen := HEN.out (w.heap.size + 1) (w.heap.size + 2) cb (args0 args) _ W3 X3 b3 ⟨cs7, hc7, g5⟩
      rw [hx] at hen
      have HK3 : Hid _ := x3.block _ _ _ HK2.out (by omega) (by decide)
      have HB3 : Hid _ := x3.below HBB.out (Nat.le_refl _) (Nat.lt_succ_self _)
      clear X3 b3 hc7 g5 h3 x3 htk
      go_wp2_with fail
      refine hen.mono ?_
      rintro e W4 ⟨rfl, h4, y4⟩
      have hov := over_any W4 h4
      have k4 := y4.block _ _ _ HK3.out (by omega) (by omega) (by decide)
      have b4 := y4.below HB3.out (Nat.le_refl _) (Nat.lt_succ_self _) (by omega)
      have HH4 : Hid _ := h4
      have HK4 : Hid _ := k4
      have HB4 : Hid _ := b4
      clear y4 hen k4 b4 h4
      by_cases hfin : x.2.fin = 0
      · have tf : (x.2.fin != 0) = false := by simp [hfin]
        rw [tf] at hov
        have HX1 : Hid (runX al fl e0 args fuel = _) := HX1.out.trans (if_pos hfin)
        have HS : Hid (x.2.stop 1 = { x.2 with fin := 1 }) := if_pos hfin
        clear hfin hx
        go_wp2_with fail
        refine hov.mono ?_
        rintro e W5 ⟨rfl, rfl⟩
        have hst := stop_any 1 W4 HH4.out
        clear hov
        go_wp2_with fail
        refine hst.mono ?_
        rintro e W6 ⟨rfl, h6, x6⟩
        rw [HS.out] at h6
        have k6 := x6.block _ _ _ HK4.out (by omega) (by decide)
        have b6 := x6.below HB4.out (Nat.le_refl _) (Nat.lt_succ_self _)
        obtain ⟨so, sn, sc, e0', e1, e2, e3, hown⟩ := h6.four
        obtain ⟨_, _, _, _, _, rz⟩ := h6.cells
        obtain ⟨ra, rbb, rc, rd, rz2⟩ : (W6.setCell ⟨w.heap.size + 1, 388, none⟩ (.int .i64 x.1)).cell? ⟨w.heap.size + 1, 387, none⟩ = some (.int .i64 1) ∧ (W6.setCell ⟨w.heap.size + 1, 388, none⟩ (.int .i64 x.1)).cell? ⟨w.heap.size + 1, 388, none⟩ = some (.int .i64 x.1) ∧ (W6.setCell ⟨w.heap.size + 1, 388, none⟩ (.int .i64 x.1)).cell? ⟨w.heap.size + 1, 389, none⟩ = some (.int .i64 x.2.site) ∧ (W6.setCell ⟨w.heap.size + 1, 388, none⟩ (.int .i64 x.1)).cell? ⟨w.heap.size + 1, 390, none⟩ = some (.slice so sn sc) ∧ ∀ o, (W6.setCell ⟨w.heap.size + 1, 388, none⟩ (.int .i64 x.1)).frozen? ⟨w.heap.size + 1, o, none⟩ = false := by
          obtain ⟨cs, vO', hc, h1, _⟩ := h6.ex
          have hs := heap_set (o := 388) (.int .i64 x.1) hc
          have ee : cs[390]? = some (.slice so sn sc) := by rw [cell_of_row _ _ _ _ _ _ hc] at e3; exact e3
          exact ⟨by rw [cell_of_row _ _ _ _ _ _ hs]; exact at_ne (by omega) h1.fin, by rw [cell_of_row _ _ _ _ _ _ hs]; exact at_eq h1.value, by rw [cell_of_row _ _ _ _ _ _ hs]; exact at_ne (by omega) h1.site, by rw [cell_of_row _ _ _ _ _ _ hs]; exact at_ne (by omega) ee, fun o => by simp [World.frozen?, hs]⟩
        have k7 := (Below.heap_setCell W6 ⟨w.heap.size + 1, 388, none⟩ (.int .i64 x.1) w.heap.size (by show w.heap.size ≠ w.heap.size + 1; omega)).trans k6
        have b7 : Below w.heap.size w (W6.setCell ⟨w.heap.size + 1, 388, none⟩ (.int .i64 x.1)) := b6.setCell (p := ⟨w.heap.size + 1, 388, none⟩) (Nat.le_succ _) _
        have hown7 : (W6.setCell ⟨w.heap.size + 1, 388, none⟩ (.int .i64 x.1)).ownsRow w.heap.size 2 1 (.slice so sn sc) x.2.outs.length (x.2.outs.map (Value.int .i64)) := own_move hown (fun k hk2 => by
          obtain ⟨⟨c2, hck⟩, _⟩ := own_typ hown hk2
          obtain ⟨cs, vO', hc, h1, _⟩ := h6.ex
          exact Below.heap_setCell _ _ _ _ (ne_typ hck hc (by decide)))
        clear e0' e2 e3 hown h6 x6 k6 b6 hst
        go_upto_region 13 with fail
        generalize W6.setCell ⟨w.heap.size + 1, 388, none⟩ (.int .i64 x.1) = W7 at *
        obtain ⟨y0, y1, y2, y3, yz⟩ := cells_four k7
        obtain ⟨x0, x1, x2, x3, _⟩ := cells_four (heap_four (a' := .int .i64 1) (b' := .int .i64 x.1) (c' := .int .i64 x.2.site) (d' := .slice so sn sc) k7)
        have FIN : Hid _ := finish_run (x := ⟨1, x.1, x.2.site, x.2.outs⟩) k7 b7 hown7
        clear k7 b7 hown7
        go_wp2
        refine bodyPost_ret (v := .agg #[.int .i64 1, .int .i64 x.1, .int .i64 x.2.site, .slice so sn sc]) (by simp [results, Tryz.results46, go_sem, x0, x1, x2, x3]) rfl ?_
        rw [HX1.out]
        exact FIN.out
      · have tf : (x.2.fin != 0) = true := by simp [hfin]
        rw [tf] at hov
        have HX1 : Hid (runX al fl e0 args fuel = _) := HX1.out.trans (if_neg hfin)
        obtain ⟨so, sn, sc, e0', e1, e2, e3, hown⟩ := HH4.out.four
        obtain ⟨y0, y1, y2, y3, yz⟩ := cells_four HK4.out
        obtain ⟨x0, x1, x2, x3, _⟩ := cells_four (heap_four (a' := .int .i64 x.2.fin) (b' := .int .i64 0) (c' := .int .i64 x.2.site) (d' := .slice so sn sc) HK4.out)
        have FIN : Hid _ := finish_run (x := ⟨x.2.fin, 0, x.2.site, x.2.outs⟩) HK4.out HB4.out hown
        clear hown hfin hx
        go_wp2_with fail
        refine hov.mono ?_
        rintro e W5 ⟨rfl, rfl⟩
        clear hov
        go_wp2
        refine bodyPost_ret (v := .agg #[.int .i64 x.2.fin, .int .i64 0, .int .i64 x.2.site, .slice so sn sc]) (by simp [results, Tryz.results46, go_sem, x0, x1, x2, x3]) rfl ?_
        rw [HX1.out]
        exact FIN.out
  · have tl : ((args.length : Int) != (lenV l9 : Int)) = true := by simp; omega
    have HX1 : Hid (runX al fl e0 args fuel = ⟨5, 0, -1, []⟩) := by rw [Hid, HXX.out, if_pos (.inl (by rw [HNP.out]; exact hlen))]
    have hst := stop_any 5 w2 HR2.out
    clear hlen h4l h4
    go_wp2_with fail
    refine hst.mono ?_
    rintro e W4 ⟨rfl, h4, x4⟩
    have k4 := x4.block _ _ _ HK2.out (by omega) (by decide)
    have b4 := x4.below HBB.out (Nat.le_refl _) (Nat.lt_succ_self _)
    have h4 : RnW w.heap.size pb (w.heap.size + 1) ⟨fun _ => 0, f, 0, 5, -1, []⟩ W4 := h4
    obtain ⟨so, sn, sc, e0', e1, e2, e3, hown⟩ := h4.four
    dsimp only at e0' e2
    obtain ⟨y0, y1, y2, y3, yz⟩ := cells_four k4
    obtain ⟨x0, x1, x2, x3, _⟩ := cells_four (heap_four (a' := .int .i64 5) (b' := .int .i64 0) (c' := .int .i64 (-1)) (d' := .slice so sn sc) k4)
    have FIN : Hid _ := finish_run (x := ⟨5, 0, -1, []⟩) k4 b4 hown
    clear h4 x4 k4 b4 hown
    go_wp2
    refine bodyPost_ret (v := .agg #[.int .i64 5, .int .i64 0, .int .i64 (-1), .slice so sn sc]) (by simp [results, Tryz.results46, go_sem, x0, x1, x2, x3]) rfl ?_
    rw [HX1.out]
    exact FIN.out
end Go.Proofs.YtikffmloeifkpaaGreatDoor

/- Package surefoot: Walk. -/
namespace Go.Proofs.YtikffmloeifkpaaGreatDoor
open Go.RowKit Go.Lib Go.Deep Go.ChangeMaps Go.MapKept

theorem own_base {w : World} {b b' n sz : Nat} {e : TypeId} {v : Value} {xs : List Value} (h : w.ownsRow b e sz v n xs) (hb : b' ≤ b) : w.ownsRow b' e sz v n xs := by
  refine ⟨h.1, ?_⟩
  rcases h.2 with h2 | ⟨g, cap, cur, h1, h2, h3⟩
  · exact .inl h2
  · exact .inr ⟨g, cap, cur, h1, Nat.le_trans hb h2, h3⟩
theorem ArgW.next {w w' : World} {va : Value} {args : List Int} (h : ArgW w va args) (hw : ∀ i, i < w.heap.size → w'.heap[i]? = w.heap[i]?) : ArgW w' va args := by
  obtain ⟨sp, cap, e, h1⟩ := h
  refine ⟨sp, cap, e, fun h0 => ?_⟩
  obtain ⟨ad, e2, h2⟩ := h1 h0
  exact ⟨ad, e2, fun j v hj => (World.cell?_of_block (hw _ (World.block_lt_of_cell? w _ (h2 j v hj)))).trans (h2 j v hj)⟩
theorem isNone_any (ab pb : Nat) (w : World) (h : w.cell? ⟨ab, 1, none⟩ = some (.pointer (some ⟨pb, 0, none⟩))) : Calls Tryz.prog 45 #[.pointer (some ⟨ab, 0, none⟩)] w fun e w' => e = .returned (.bool false) ∧ w = w' := by
  go_enter Tryz.func45, Tryz.ntmps45
  go_wp2
  go_ret
  exact ⟨rfl, rfl⟩
/-- A program that was read, run. -/
theorem RunP {H g cap pb : Nat} {s : ByteArray} {t : Tr} {vA vF vS : Value} {w : World} (h : Pg0 H g cap pb s t vA vF vS w) (hc : (readC s).1 = 0) {va : Value} {args : List Int} (ha : ArgW w va args) (fuel : Int) : Calls Tryz.prog 46 #[.pointer (some ⟨pb, 0, none⟩), va, .int .i64 fuel] w (PostRun (walkC s args fuel) w) := by
  have hg := good h.er hc
  obtain ⟨j, hj, hm⟩ := hg.main
  rw [walkC_x h.er]
  have hmem := List.mem_of_getElem? hm
  obtain ⟨b, o, a, l, x, y, z, p, q, e1, h17, hl, _⟩ := hg.fl hmem
  refine Run_any hg.flok hm pb va args fuel w (h.pgx hg) ?_ ha (fun b' o' a' l' q' e => ?_) ?_
  · rw [cell_of_row _ _ _ _ _ _ h.prog, ← hj]; rfl
  · rw [e1] at e
    cases e
    exact hl
  · have hmm := hmem
    unfold flOf at hmm
    rw [hg.el] at hmm
    obtain ⟨e0, S, h0, e2⟩ := kind_siT_mem hg.si hmm
    obtain ⟨b', o', a', l', x', y', z', p', q', e3, _, _, _, _, h4⟩ := hg.ok.fns e0 h0
    rw [e2, nPar_siT, e3]
    show lenV l' ≤ 12
    omega
set_option maxRecDepth 100000 in
set_option maxHeartbeats 4000000 in
/-- Every Walk. -/
theorem Walk_any {ab : Nat} {s : ByteArray} {w : World} (h : PgW ab s w) (hc : (readC s).1 = 0) {va : Value} {args : List Int} (ha : ArgW w va args) (fuel : Int) : Calls Tryz.prog 21 #[.pointer (some ⟨ab, 0, none⟩), va, .int .i64 fuel] w (PostRun (walkC s args fuel) w) := by
  obtain ⟨H, g, cap, pb, t, vA, vF, vS, hab, hp⟩ := h.ex
  obtain ⟨o0, ho0⟩ : ∃ o0 : Obj, o0 = .cells #[.int .i64 0, .int .i64 0, .int .i64 0, .slice none 0 0] 42 := ⟨_, rfl⟩
  have sA : (w.alloc o0).heap.size = w.heap.size + 1 := by simp
  have nA : ∀ i, i < w.heap.size → (w.alloc o0).heap[i]? = w.heap[i]? := fun i hi => Below.heap_alloc _ _ _ hi
  have kA : (w.alloc o0).heap[w.heap.size]? = some (.cells #[.int .i64 0, .int .i64 0, .int .i64 0, .slice none 0 0] 42 (0, 0)) := by
    rw [ho0]; exact heap_alloc_new w _
  have hR := RunP (hp.next nA) hc (ha.next nA) fuel
  have c1 : (w.alloc o0).cell? ⟨ab, 1, none⟩ = some (.pointer (some ⟨pb, 0, none⟩)) := by
    rw [cell_of_row _ _ _ _ _ _ ((nA ab (Array.getElem?_eq_some_iff.1 hab).1).trans hab)]; rfl
  have hN := isNone_any ab pb _ c1
  have bA : Below w.heap.size w (w.alloc o0) := (Below.refl _ _).alloc (Nat.le_refl _) _
  obtain ⟨sp, cp, rfl, _⟩ := ha
  generalize walkC s args fuel = x at *
  clear hp hab nA
  go_enter Tryz.func21, Tryz.ntmps21
  go_upto_region 1 with fail
  rw [← ho0]
  clear ho0
  generalize w.alloc o0 = wA at *
  go_wp2_with fail
  refine hN.mono ?_
  rintro e w' ⟨rfl, rfl⟩
  clear hN
  go_wp2_with fail
  refine hR.mono ?_
  rintro e W2 ⟨vO, rfl, hown, b2⟩
  obtain ⟨so, sc, rfl, _⟩ := slice_any hown
  have k2 := (b2.block w.heap.size (by omega)).trans kA
  have B2 : Below w.heap.size w W2 := bA.trans (b2.mono (by omega))
  obtain ⟨y0, y1, y2, y3, yz⟩ := cells_four k2
  obtain ⟨x0, x1, x2, x3, _⟩ := cells_four (heap_four (a' := .int .i64 x.fin) (b' := .int .i64 x.value) (c' := .int .i64 x.site) (d' := .slice so x.outs.length sc) k2)
  have FIN : Hid _ := finish_run (x := x) k2 B2 (own_base hown (by omega))
  clear hown b2 k2 B2 hR kA bA
  go_wp2
  refine bodyPost_ret (v := .agg #[.int .i64 x.fin, .int .i64 x.value, .int .i64 x.site, .slice so x.outs.length sc]) (by simp [results, Tryz.results21, go_sem, x0, x1, x2, x3]) rfl ?_
  exact FIN.out
end Go.Proofs.YtikffmloeifkpaaGreatDoor

/- The statements' own small functions: pick, begins, same, is. -/
namespace Go.Proofs.YtikffmloeifkpaaGreatDoor
open Go.RowKit Go.Lib Go.Deep Go.ChangeMaps Go.MapKept

/-- A row of numbers, to be read. -/
def RowW (w : World) (v : Value) (xs : List Int) : Prop := ∃ ao cp, v = .slice ao xs.length cp ∧ xs.length ≤ maxLen ∧ (0 < xs.length → ∃ g, ao = some ⟨g, 0, none⟩ ∧ ∀ i, i < xs.length → w.cell? ⟨g, i, none⟩ = some (.int .i64 (xs.getD i 0)))
theorem rowW_own {w : World} {B : Nat} {v : Value} {xs : List Int} (h : w.ownsRow B 2 1 v xs.length (xs.map (Value.int .i64))) : RowW w v xs := by
  have hmx : xs.length ≤ maxLen := by
    rcases h.2 with ⟨_, h2⟩ | ⟨g, cap, cur, _, _, _, h3, h4, _⟩
    · omega
    · exact Nat.le_trans h3 h4
  obtain ⟨ao, cp, rfl, h2⟩ := slice_any h
  refine ⟨ao, cp, rfl, hmx, fun h0 => ?_⟩
  obtain ⟨g, rfl⟩ := h2.resolve_left (by omega)
  refine ⟨g, rfl, fun i hi => ?_⟩
  rw [h.cellAt i (by omega), List.getElem?_map, List.getElem?_eq_getElem hi, List.getD_eq_getElem?_getD, List.getElem?_eq_getElem hi]
  rfl
theorem RowW.next {w w' : World} {v : Value} {xs : List Int} (h : RowW w v xs) (hw : ∀ i, i < w.heap.size → w'.heap[i]? = w.heap[i]?) : RowW w' v xs := by
  obtain ⟨ao, cp, e, hmx, h1⟩ := h
  refine ⟨ao, cp, e, hmx, fun h0 => ?_⟩
  obtain ⟨g, e2, h2⟩ := h1 h0
  exact ⟨g, e2, fun i hi => (World.cell?_of_block (hw _ (World.block_lt_of_cell? w _ (h2 i hi)))).trans (h2 i hi)⟩
/-- The same memory. -/
def Still (w w' : World) : Prop := w'.heap = w.heap ∧ w'.os = w.os ∧ w'.tape = w.tape ∧ w'.output = w.output
theorem Still.refl (w : World) : Still w w := ⟨rfl, rfl, rfl, rfl⟩
theorem Still.below {w w' : World} (h : Still w w') (B : Nat) : Below B w w' := ⟨h.2.1, h.2.2.1, h.2.2.2, by rw [h.1]; exact Nat.le_refl _, fun k _ => by rw [h.1]⟩
theorem Still.drewN {w w' : World} (h : Still w w') (n : Nat) : Still w (w'.drewN n) := h
theorem RowW.still {w w' : World} {v : Value} {xs : List Int} (h : RowW w v xs) (hs : Still w w') : RowW w' v xs := h.next (fun i _ => by rw [hs.1])

set_option maxRecDepth 100000 in
set_option maxHeartbeats 2000000 in
theorem pick_any (c n : Int) (w : World) (hc : -9223372036854775808 ≤ c ∧ c ≤ 9223372036854775807) (hn : 0 < n ∧ n ≤ 1000000) : Calls Tryz.prog 20 #[.int .i64 c, .int .i64 n] w fun e w' => (∃ v, e = .returned (.int .i64 v) ∧ 0 ≤ v ∧ v < n ∧ (0 ≤ c → v = c % n)) ∧ w = w' := by
  have hz : (n == 0) = false := by simp; omega
  by_cases h0 : c < 0
  · have t0 : decide (c < 0) = true := by simp [h0]
    have hw : IntKind.i64.wrap (c + 1) = c + 1 := IntWalk.i64_in _ (by omega)
    have hw2 : IntKind.i64.wrap (-(c + 1)) = -(c + 1) := IntWalk.i64_in _ (by omega)
    have hm := Int.tmod_nonneg n (a := -(c + 1)) (by omega)
    have hm2 := Int.tmod_lt_of_pos (-(c + 1)) (b := n) (by omega)
    rw [Int.neg_tmod] at hm hm2
    go_enter Tryz.func20, Tryz.ntmps20
    go_wp2
    go_ret
    exact ⟨⟨_, rfl, hm, hm2, fun h => by omega⟩, rfl⟩
  · have t0 : decide (c < 0) = false := by simp; omega
    have hm := Int.emod_nonneg c (b := n) (by omega)
    have hm2 := Int.emod_lt_of_pos c (b := n) (by omega)
    go_enter Tryz.func20, Tryz.ntmps20
    go_wp2
    go_ret
    exact ⟨⟨_, rfl, hm, hm2, by intros; rfl⟩, rfl⟩
theorem prefix_iff (xs ys : List Int) : xs <+: ys ↔ xs.length ≤ ys.length ∧ ∀ i, i < xs.length → xs.getD i 0 = ys.getD i 0 := by
  constructor
  · intro h
    obtain ⟨t, rfl⟩ := h
    refine ⟨by simp, fun i hi => ?_⟩
    rw [List.getD_eq_getElem?_getD, List.getD_eq_getElem?_getD, List.getElem?_append_left hi]
  · intro ⟨h1, h2⟩
    rw [List.prefix_iff_eq_take]
    apply List.ext_getElem
    · rw [List.length_take]; omega
    · intro i hi hi2
      have := h2 i hi
      rw [List.getD_eq_getElem?_getD, List.getD_eq_getElem?_getD, List.getElem?_eq_getElem hi, List.getElem?_eq_getElem (by omega)] at this
      rw [List.getElem_take]
      exact this
set_option maxRecDepth 100000 in
set_option maxHeartbeats 4000000 in
theorem begins_any (xs ys : List Int) (va vb : Value) (w : World) (ha : RowW w va xs) (hb : RowW w vb ys) (c : Bool) (hc : c = true ↔ xs <+: ys) : Calls Tryz.prog 23 #[va, vb] w fun e w' => e = .returned (.bool c) ∧ Still w w' := by
  have HA : Hid (RowW w va xs) := ha
  have HB : Hid (RowW w vb ys) := hb
  obtain ⟨ao, cp, rfl, hmx, ha⟩ := ha
  obtain ⟨bo, cq, rfl, _, hb⟩ := hb
  have hmi : (xs.length : Int) ≤ 9223372036854775807 := by unfold maxLen at hmx; omega
  rw [prefix_iff] at hc
  by_cases hl : xs.length ≤ ys.length
  · have hlI : ¬ (ys.length : Int) < (xs.length : Int) := by omega
    have L0 : ∃ i : Nat, Value.int .i64 0 = .int .i64 i ∧ i ≤ xs.length ∧ xs.length ≤ i + xs.length ∧ (∀ j, j < i → xs.getD j 0 = ys.getD j 0) ∧ Still w w := ⟨0, rfl, Nat.zero_le _, by omega, fun j h => by omega, Still.refl _⟩
    have HC : Hid _ := hc
    have HL : Hid (xs.length ≤ ys.length) := hl
    clear ha hb hc
    go_enter Tryz.func23, Tryz.ntmps23
    go_wp2_with fail
    go_loopg [5] xs.length (fun m v wr => ∃ i : Nat, v = .int .i64 i ∧ i ≤ xs.length ∧ xs.length ≤ i + m ∧ (∀ j, j < i → xs.getD j 0 = ys.getD j 0) ∧ Still w wr)
    case atStart => exact L0
    case round =>
      clear L0
      obtain ⟨i, rfl, hle, hm, heq, hs⟩ := hrel
      have HS : Hid _ := hs
      by_cases hlt : i < xs.length
      · have hltI : (i : Int) < (xs.length : Int) := by omega
        obtain ⟨_, _, e1, _, h1⟩ := HA.out.still hs
        obtain ⟨_, _, e2, _, h2⟩ := HB.out.still hs
        cases e1
        cases e2
        obtain ⟨g1, rfl, c1⟩ := h1 (by omega)
        obtain ⟨g2, rfl, c2⟩ := h2 (by omega)
        have n1 := c1 i hlt
        have n2 := c2 i (by omega)
        have b1 : 0 ≤ (i : Int) ∧ (i : Int) < (xs.length : Int) := by omega
        have b2 : 0 ≤ (i : Int) ∧ (i : Int) < (ys.length : Int) := by omega
        have hxx : Hid _ := heq
        clear c1 c2 h1 h2 hs heq
        by_cases he : xs.getD i 0 = ys.getD i 0
        · have fin : ∀ n m, xs.length ≤ i + (m + 1) → ∃ i' : Nat, Value.int .i64 ((i : Int) + 1) = .int .i64 i' ∧ i' ≤ xs.length ∧ xs.length ≤ i' + m ∧ (∀ j, j < i' → xs.getD j 0 = ys.getD j 0) ∧ Still w (wr.drewN n) := fun n m h => by
            refine ⟨i + 1, by simp, by omega, by omega, fun j hj => ?_, Still.drewN HS.out n⟩
            by_cases e : j = i
            · rw [e]; exact he
            · exact hxx.out j (by omega)
          have FIN : Hid _ := fin
          generalize xs.getD i 0 = V1 at *
          generalize ys.getD i 0 = V2 at *
          have tn : (V1 != V2) = false := by simp [he]
          clear he fin
          obtain ⟨m, rfl⟩ : ∃ m, gk = m + 1 := ⟨gk - 1, by omega⟩
          go_wp2_with fail
          go_quiet (fail)
          go_wp2
          go_roundg m
          case rel => exact FIN.out _ m hm
          case measure => omega
        · have hcf : Hid (c = false) := by
            rw [Hid]
            cases c
            · rfl
            · exact absurd ((HC.out.1 rfl).2 i hlt) he
          generalize xs.getD i 0 = V1 at *
          generalize ys.getD i 0 = V2 at *
          have tn : (V1 != V2) = true := by simp [he]
          clear he
          go_wp2_with fail
          go_quiet (fail)
          go_wp2
          go_ret
          exact ⟨ret_bool hcf.out.symm, Still.drewN HS.out _⟩
      · have hltI : ¬ (i : Int) < (xs.length : Int) := by omega
        have hct : Hid (c = true) := HC.out.2 ⟨HL.out, fun j hj => heq j (by omega)⟩
        clear hs heq
        go_wp2
        go_ret
        exact ⟨ret_bool hct.out.symm, HS.out⟩
  · have hlI : (ys.length : Int) < (xs.length : Int) := by omega
    have hcf : Hid (c = false) := by
      rw [Hid]
      cases c
      · rfl
      · exact absurd (hc.1 rfl).1 hl
    clear ha hb hc hl
    go_enter Tryz.func23, Tryz.ntmps23
    go_wp2
    go_ret
    exact ⟨ret_bool hcf.out.symm, Still.refl _⟩
end Go.Proofs.YtikffmloeifkpaaGreatDoor

/- The statements' own small functions: same, is. -/
namespace Go.Proofs.YtikffmloeifkpaaGreatDoor
open Go.RowKit Go.Lib Go.Deep Go.ChangeMaps Go.MapKept

/-- A result. -/
def R4W (w : World) (x : Rs4) (v : Value) : Prop := ∃ vO, v = .agg #[.int .i64 x.fin, .int .i64 x.value, .int .i64 x.site, vO] ∧ RowW w vO x.outs
theorem R4W.next {w w' : World} {x : Rs4} {v : Value} (h : R4W w x v) (hw : ∀ i, i < w.heap.size → w'.heap[i]? = w.heap[i]?) : R4W w' x v := by
  obtain ⟨vO, e, h1⟩ := h
  exact ⟨vO, e, h1.next hw⟩
theorem PostRun.rs {x : Rs4} {w w' : World} {e : Ending} (h : PostRun x w e w') : ∃ v, e = .returned v ∧ R4W w' x v ∧ Below w.heap.size w w' := by
  obtain ⟨vO, e1, h1, h2⟩ := h
  exact ⟨_, e1, ⟨vO, rfl, rowW_own h1⟩, h2⟩
theorem rs_eq (x y : Rs4) : x = y ↔ x.fin = y.fin ∧ x.value = y.value ∧ x.site = y.site ∧ x.outs = y.outs := by
  cases x; cases y; simp

set_option maxRecDepth 100000 in
set_option maxHeartbeats 4000000 in
theorem same_any (x y : Rs4) (va vb : Value) (w : World) (ha : R4W w x va) (hb : R4W w y vb) (c : Bool) (hc : c = true ↔ x = y) : Calls Tryz.prog 22 #[va, vb] w fun e w' => e = .returned (.bool c) ∧ Below w.heap.size w w' := by
  obtain ⟨v1, rfl, ha⟩ := ha
  obtain ⟨v2, rfl, hb⟩ := hb
  obtain ⟨a1, n1, p1, rfl⟩ : ∃ a n p, v1 = .slice a n p := by obtain ⟨ao, cp, e, _⟩ := ha; exact ⟨_, _, _, e⟩
  obtain ⟨a2, n2, p2, rfl⟩ : ∃ a n p, v2 = .slice a n p := by obtain ⟨ao, cp, e, _⟩ := hb; exact ⟨_, _, _, e⟩
  have hn1 : n1 = x.outs.length := by obtain ⟨ao, cp, e, _⟩ := ha; cases e; rfl
  have hn2 : n2 = y.outs.length := by obtain ⟨ao, cp, e, _⟩ := hb; cases e; rfl
  rw [rs_eq] at hc
  obtain ⟨o1, ho1⟩ : ∃ o1 : Obj, o1 = .cells #[.int .i64 x.fin, .int .i64 x.value, .int .i64 x.site, .slice a1 n1 p1] 42 := ⟨_, rfl⟩
  obtain ⟨o2, ho2⟩ : ∃ o2 : Obj, o2 = .cells #[.int .i64 y.fin, .int .i64 y.value, .int .i64 y.site, .slice a2 n2 p2] 42 := ⟨_, rfl⟩
  have sA : (w.alloc o1).heap.size = w.heap.size + 1 := by simp
  have nB : ∀ i, i < w.heap.size → ((w.alloc o1).alloc o2).heap[i]? = w.heap[i]? := fun i hi => (Below.heap_alloc _ _ _ (by omega)).trans (Below.heap_alloc _ _ _ hi)
  have k1 : ((w.alloc o1).alloc o2).heap[w.heap.size]? = some (.cells #[.int .i64 x.fin, .int .i64 x.value, .int .i64 x.site, .slice a1 n1 p1] 42 (0, 0)) := by
    refine (Below.heap_alloc _ _ _ (by omega)).trans ?_
    rw [ho1]; exact heap_alloc_new w _
  have k2 : ((w.alloc o1).alloc o2).heap[w.heap.size + 1]? = some (.cells #[.int .i64 y.fin, .int .i64 y.value, .int .i64 y.site, .slice a2 n2 p2] 42 (0, 0)) := by
    have := heap_alloc_new (w.alloc o1) o2
    rw [sA] at this
    rw [this, ho2]
  have bB : Below w.heap.size w ((w.alloc o1).alloc o2) := ((Below.refl _ _).alloc (Nat.le_refl _) _).alloc (by omega) _
  have HBG : Hid (Calls Tryz.prog 23 #[.slice a1 n1 p1, .slice a2 n2 p2] ((w.alloc o1).alloc o2) fun e w' => e = .returned (.bool (decide (x.outs <+: y.outs))) ∧ Still ((w.alloc o1).alloc o2) w') := begins_any _ _ _ _ _ (ha.next nB) (hb.next nB) _ (by simp)
  obtain ⟨x0, x1, x2, x3, _⟩ := cells_four k1
  obtain ⟨y0, y1, y2, y3, _⟩ := cells_four k2
  have HBB : Hid _ := bB
  have HK1 : Hid _ := k1
  have HK2 : Hid _ := k2
  have HN : Hid (n1 = x.outs.length ∧ n2 = y.outs.length) := ⟨hn1, hn2⟩
  clear ha hb bB k1 k2 nB hn1 hn2 sA
  have first : ∀ {P : Prop}, ¬ P → (c = true ↔ P) → Hid (c = false) := fun hp h => by
    rw [Hid]
    cases c
    · rfl
    · exact absurd (h.1 rfl) hp
  by_cases h1 : x.fin = y.fin
  · have t1 : (x.fin != y.fin) = false := by simp [h1]
    by_cases h2 : x.value = y.value
    · have t2 : (x.value != y.value) = false := by simp [h2]
      by_cases h3 : x.site = y.site
      · have t3 : (x.site != y.site) = false := by simp [h3]
        have HC : Hid (c = true ↔ x.outs = y.outs) := by
          rw [Hid, hc]
          exact ⟨fun h => h.2.2.2, fun h => ⟨h1, h2, h3, h⟩⟩
        clear hc h1 h2 h3 first
        generalize x.fin = xf at *
        generalize y.fin = yf at *
        generalize x.value = xv at *
        generalize y.value = yv at *
        generalize x.site = xs at *
        generalize y.site = ys at *
        go_enter Tryz.func22, Tryz.ntmps22
        go_upto_region 1 with fail
        rw [← ho1, ← ho2]
        clear ho1 ho2
        generalize (w.alloc o1).alloc o2 = wB at *
        go_wp2_with fail
        refine HBG.out.mono ?_
        rintro e W2 ⟨rfl, hs⟩
        have HS : Hid (Below w.heap.size w W2) := HBB.out.trans (hs.below _)
        obtain ⟨_, _, _, u3, _⟩ := cells_four (w := W2) (by rw [hs.1]; exact HK1.out)
        obtain ⟨_, _, _, v3, _⟩ := cells_four (w := W2) (by rw [hs.1]; exact HK2.out)
        clear hs x0 x1 x2 x3 y0 y1 y2 y3
        by_cases hp : x.outs <+: y.outs
        · rw [decide_eq_true hp]
          by_cases hl : n1 = n2
          · have tl : ((n1 : Int) == (n2 : Int)) = true := by simp [hl]
            have hct : Hid (c = true) := HC.out.2 (hp.eq_of_length (by rw [← HN.out.1, ← HN.out.2]; exact hl))
            clear hp hl
            go_wp2
            go_ret
            exact ⟨ret_bool hct.out.symm, HS.out⟩
          · have tl : ((n1 : Int) == (n2 : Int)) = false := by simp; omega
            have hcf : Hid (c = false) := by
              rw [Hid]
              cases c
              · rfl
              · exact absurd (by rw [HN.out.1, HN.out.2, HC.out.1 rfl]) hl
            clear hp hl
            go_wp2
            go_ret
            exact ⟨ret_bool hcf.out.symm, HS.out⟩
        · rw [decide_eq_false hp]
          have hcf : Hid (c = false) := by
            rw [Hid]
            cases c
            · rfl
            · exact absurd (by rw [HC.out.1 rfl]; exact List.prefix_refl _) hp
          clear hp
          go_wp2
          go_ret
          exact ⟨ret_bool hcf.out.symm, HS.out⟩
      · have t3 : (x.site != y.site) = true := by simp [h3]
        have hcf := first (fun h => h3 h.2.2.1) hc
        clear hc h1 h2 h3 first HBG HK1 HK2 HN
        generalize x.fin = xf at *
        generalize y.fin = yf at *
        generalize x.value = xv at *
        generalize y.value = yv at *
        generalize x.site = xs at *
        generalize y.site = ys at *
        go_enter Tryz.func22, Tryz.ntmps22
        go_upto_region 1 with fail
        rw [← ho1, ← ho2]
        clear ho1 ho2
        generalize (w.alloc o1).alloc o2 = wB at *
        go_wp2
        go_ret
        exact ⟨ret_bool hcf.out.symm, HBB.out⟩
    · have t2 : (x.value != y.value) = true := by simp [h2]
      have hcf := first (fun h => h2 h.2.1) hc
      clear hc h1 h2 first HBG HK1 HK2 HN
      generalize x.fin = xf at *
      generalize y.fin = yf at *
      generalize x.value = xv at *
      generalize y.value = yv at *
      go_enter Tryz.func22, Tryz.ntmps22
      go_upto_region 1 with fail
      rw [← ho1, ← ho2]
      clear ho1 ho2
      generalize (w.alloc o1).alloc o2 = wB at *
      go_wp2
      go_ret
      exact ⟨ret_bool hcf.out.symm, HBB.out⟩
  · have t1 : (x.fin != y.fin) = true := by simp [h1]
    have hcf := first (fun h => h1 h.1) hc
    clear hc h1 first HBG HK1 HK2 HN
    generalize x.fin = xf at *
    generalize y.fin = yf at *
    go_enter Tryz.func22, Tryz.ntmps22
    go_upto_region 1 with fail
    rw [← ho1, ← ho2]
    clear ho1 ho2
    generalize (w.alloc o1).alloc o2 = wB at *
    go_wp2
    go_ret
    exact ⟨ret_bool hcf.out.symm, HBB.out⟩
/-- Is it Done with this value, or a Trap at this site? -/
def isB (x : Rs4) (done : Bool) (value site : Int) : Bool := if done then (x.fin == 1 && x.value == value && x.site == -1) else (x.fin == 2 && x.site == site && x.value == 0)
set_option maxRecDepth 100000 in
set_option maxHeartbeats 4000000 in
theorem is_any (x : Rs4) (va : Value) (done : Bool) (value site : Int) (w : World) (ha : R4W w x va) : Calls Tryz.prog 25 #[va, .bool done, .int .i64 value, .int .i64 site] w fun e w' => e = .returned (.bool (isB x done value site)) ∧ Below w.heap.size w w' := by
  obtain ⟨v1, rfl, ha⟩ := ha
  obtain ⟨a1, n1, p1, rfl⟩ : ∃ a n p, v1 = .slice a n p := by obtain ⟨ao, cp, e, _⟩ := ha; exact ⟨_, _, _, e⟩
  obtain ⟨o1, ho1⟩ : ∃ o1 : Obj, o1 = .cells #[.int .i64 x.fin, .int .i64 x.value, .int .i64 x.site, .slice a1 n1 p1] 42 := ⟨_, rfl⟩
  have k1 : (w.alloc o1).heap[w.heap.size]? = some (.cells #[.int .i64 x.fin, .int .i64 x.value, .int .i64 x.site, .slice a1 n1 p1] 42 (0, 0)) := by
    rw [ho1]; exact heap_alloc_new w _
  have HBB : Hid (Below w.heap.size w (w.alloc o1)) := (Below.refl _ _).alloc (Nat.le_refl _) _
  obtain ⟨x0, x1, x2, x3, _⟩ := cells_four k1
  clear ha k1
  generalize hR : isB x done value site = R
  have HR : Hid (R = isB x done value site) := hR.symm
  clear hR
  unfold isB at HR
  generalize x.fin = xf at *
  generalize x.value = xv at *
  generalize x.site = xs at *
  cases done
  · by_cases h1 : xf = 2
    · have t1 : (xf == 2) = true := by simp [h1]
      by_cases h2 : xs = site
      · have t2 : (xs == site) = true := by simp [h2]
        by_cases h3 : xv = 0
        · have t3 : (xv == 0) = true := by simp [h3]
          have hc : Hid (R = true) := by rw [Hid, HR.out, t1, t2, t3]; rfl
          clear h1 h2 h3 HR
          go_enter Tryz.func25, Tryz.ntmps25
          go_upto_region 1 with fail
          rw [← ho1]
          clear ho1
          generalize w.alloc o1 = wB at *
          go_wp2
          go_ret
          exact ⟨ret_bool hc.out.symm, HBB.out⟩
        · have t3 : (xv == 0) = false := by simp [h3]
          have hc : Hid (R = false) := by rw [Hid, HR.out, t1, t2, t3]; rfl
          clear h1 h2 h3 HR
          go_enter Tryz.func25, Tryz.ntmps25
          go_upto_region 1 with fail
          rw [← ho1]
          clear ho1
          generalize w.alloc o1 = wB at *
          go_wp2
          go_ret
          exact ⟨ret_bool hc.out.symm, HBB.out⟩
      · have t2 : (xs == site) = false := by simp [h2]
        have hc : Hid (R = false) := by rw [Hid, HR.out, t1, t2]; rfl
        clear h1 h2 HR
        go_enter Tryz.func25, Tryz.ntmps25
        go_upto_region 1 with fail
        rw [← ho1]
        clear ho1
        generalize w.alloc o1 = wB at *
        go_wp2
        go_ret
        exact ⟨ret_bool hc.out.symm, HBB.out⟩
    · have t1 : (xf == 2) = false := by simp [h1]
      have hc : Hid (R = false) := by rw [Hid, HR.out, t1]; rfl
      clear h1 HR
      go_enter Tryz.func25, Tryz.ntmps25
      go_upto_region 1 with fail
      rw [← ho1]
      clear ho1
      generalize w.alloc o1 = wB at *
      go_wp2
      go_ret
      exact ⟨ret_bool hc.out.symm, HBB.out⟩
  · by_cases h1 : xf = 1
    · have t1 : (xf == 1) = true := by simp [h1]
      by_cases h2 : xv = value
      · have t2 : (xv == value) = true := by simp [h2]
        by_cases h3 : xs = -1
        · have t3 : (xs == -1) = true := by simp [h3]
          have hc : Hid (R = true) := by rw [Hid, HR.out, t1, t2, t3]; rfl
          clear h1 h2 h3 HR
          go_enter Tryz.func25, Tryz.ntmps25
          go_upto_region 1 with fail
          rw [← ho1]
          clear ho1
          generalize w.alloc o1 = wB at *
          go_wp2
          go_ret
          exact ⟨ret_bool hc.out.symm, HBB.out⟩
        · have t3 : (xs == -1) = false := by simp [h3]
          have hc : Hid (R = false) := by rw [Hid, HR.out, t1, t2, t3]; rfl
          clear h1 h2 h3 HR
          go_enter Tryz.func25, Tryz.ntmps25
          go_upto_region 1 with fail
          rw [← ho1]
          clear ho1
          generalize w.alloc o1 = wB at *
          go_wp2
          go_ret
          exact ⟨ret_bool hc.out.symm, HBB.out⟩
      · have t2 : (xv == value) = false := by simp [h2]
        have hc : Hid (R = false) := by rw [Hid, HR.out, t1, t2]; rfl
        clear h1 h2 HR
        go_enter Tryz.func25, Tryz.ntmps25
        go_upto_region 1 with fail
        rw [← ho1]
        clear ho1
        generalize w.alloc o1 = wB at *
        go_wp2
        go_ret
        exact ⟨ret_bool hc.out.symm, HBB.out⟩
    · have t1 : (xf == 1) = false := by simp [h1]
      have hc : Hid (R = false) := by rw [Hid, HR.out, t1]; rfl
      clear h1 HR
      go_enter Tryz.func25, Tryz.ntmps25
      go_upto_region 1 with fail
      rw [← ho1]
      clear ho1
      generalize w.alloc o1 = wB at *
      go_wp2
      go_ret
      exact ⟨ret_bool hc.out.symm, HBB.out⟩
end Go.Proofs.YtikffmloeifkpaaGreatDoor

/- The statements' own small functions: sure. -/
namespace Go.Proofs.YtikffmloeifkpaaGreatDoor
open Go.RowKit Go.Lib Go.Deep Go.ChangeMaps Go.MapKept

/-- The text that must be read. -/
def sureT : ByteArray := { data := #[102, 110, 32, 109, 97, 105, 110, 40, 110, 41, 32, 123, 32, 111, 117, 116, 32, 110, 59, 32, 114, 101, 116, 117, 114, 110, 32, 56, 32, 47, 32, 110, 59, 32, 125] }
theorem sure_read : readC sureT = (0, 0) := by decide +kernel
theorem sure_a : (walkC sureT [3] 9).fin = 1 ∧ (walkC sureT [3] 9).value = 2 ∧ (walkC sureT [3] 9).site = -1 ∧ (walkC sureT [3] 9).outs = [3] := by decide +kernel
theorem sure_b : (walkC sureT [0] 9).fin = 2 ∧ (walkC sureT [0] 9).value = 0 ∧ (walkC sureT [0] 9).site = 0 ∧ (walkC sureT [0] 9).outs = [0] := by decide +kernel
theorem sure_a' : walkC sureT [3] 9 = ⟨1, 2, -1, [3]⟩ := (rs_eq _ _).2 sure_a
theorem sure_b' : walkC sureT [0] 9 = ⟨2, 0, 0, [0]⟩ := (rs_eq _ _).2 sure_b
/-- A row of arguments, new. -/
theorem argW_new {w : World} {g n cp : Nat} {args : List Int} {cs : Array Value} {t : TypeId} (h : w.heap[g]? = some (.cells cs t (0, 0))) (hc : cs = (args.map (Value.int .i64)).toArray) (hn : n = args.length) : ArgW w (.slice (some ⟨g, 0, none⟩) n cp) args := by
  subst hn
  refine ⟨_, cp, rfl, fun _ => ⟨_, rfl, fun j v hj => ?_⟩⟩
  rw [show (⟨g, 0, none⟩ : Addr).add j = ⟨g, j, none⟩ by unfold Addr.add; split <;> simp_all]
  rw [cell_of_row _ _ _ _ _ _ h, hc]
  simpa using hj
set_option maxRecDepth 100000 in
set_option maxHeartbeats 8000000 in
theorem sure_any (w : World) (ht : Tab w) : Calls Tryz.prog 18 #[] w fun e w' => e = .returned (.bool true) ∧ Below w.heap.size w w' := by
  have hr := Read_all sureT w ht (by unfold maxLen; decide)
  unfold sureT at hr
  go_enter Tryz.func18, Tryz.ntmps18
  go_wp2_with fail
  refine hr.mono ?_
  rintro e W1 ⟨b1, hres⟩
  replace hres := hres.resolve_left (fun h => h.1 (by have := sure_read; unfold sureT at this; rw [this]))
  obtain ⟨_, ab, rfl, hp⟩ := hres
  -- Walk of 3
  obtain ⟨oF, hoF⟩ : ∃ o : Obj, o = .cells #[.int .i64 0, .int .i64 0] 37 := ⟨_, rfl⟩
  obtain ⟨o3, ho3⟩ : ∃ o : Obj, o = .cells #[.int .i64 3] 2 := ⟨_, rfl⟩
  have s1 : (W1.alloc oF).heap.size = W1.heap.size + 1 := by simp
  have n1 : ∀ i, i < W1.heap.size → ((W1.alloc oF).alloc o3).heap[i]? = W1.heap[i]? := fun i hi => (Below.heap_alloc _ _ _ (by omega)).trans (Below.heap_alloc _ _ _ hi)
  have a1 : ArgW ((W1.alloc oF).alloc o3) (.slice (some ⟨W1.heap.size + 1, 0, none⟩) 1 1) [3] := by
    refine argW_new (cs := #[.int .i64 3]) (t := 2) ?_ rfl rfl
    have := heap_alloc_new (W1.alloc oF) o3
    rw [s1] at this
    rw [this, ho3]
  have hw1 := Walk_any (hp.next n1) (by have := sure_read; unfold sureT at this; rw [this]) a1 9
  have e1 := sure_a'
  have e2 := sure_b'
  unfold sureT at e1 e2
  rw [e1] at hw1
  have B1 : Below w.heap.size w ((W1.alloc oF).alloc o3) := (b1.alloc b1.size _).alloc (by have := b1.size; omega) _
  have HP : Hid _ := hp.next n1
  have HE2 : Hid _ := e2
  have HB1 : Hid _ := B1
  have hsz : w.heap.size ≤ ((W1.alloc oF).alloc o3).heap.size := B1.size
  clear hr e1 e2 hp n1 a1 B1 b1 s1
  go_upto_region 4 with fail
  rw [← hoF]
  clear hoF
  go_wp2_with fail
  rw [← ho3]
  clear ho3
  generalize (W1.alloc oF).alloc o3 = Wb at *
  refine hw1.mono ?_
  rintro e W2 hpost
  obtain ⟨va, rfl, ⟨vO, rfl, hrow⟩, b2⟩ := hpost.rs
  clear hpost hw1
  obtain ⟨ao, cp, rfl, _, hr1⟩ := hrow
  obtain ⟨g1, rfl, c1⟩ := hr1 (by decide)
  have c3 : W2.cell? ⟨g1, 0, none⟩ = some (.int .i64 3) := c1 0 (by decide)
  clear hr1 c1
  -- Walk of 0
  obtain ⟨oA, hoA⟩ : ∃ o : Obj, o = .cells #[.int .i64 1, .int .i64 2, .int .i64 (-1), .slice (some ⟨g1, 0, none⟩) 1 cp] 42 := ⟨_, rfl⟩
  obtain ⟨o0, ho0⟩ : ∃ o : Obj, o = .cells #[.int .i64 0] 2 := ⟨_, rfl⟩
  have s2 : (W2.alloc oA).heap.size = W2.heap.size + 1 := by simp
  have n2 : ∀ i, i < W2.heap.size → ((W2.alloc oA).alloc o0).heap[i]? = W2.heap[i]? := fun i hi => (Below.heap_alloc _ _ _ (by omega)).trans (Below.heap_alloc _ _ _ hi)
  have kA : ((W2.alloc oA).alloc o0).heap[W2.heap.size]? = some (.cells #[.int .i64 1, .int .i64 2, .int .i64 (-1), .slice (some ⟨g1, 0, none⟩) 1 cp] 42 (0, 0)) := by
    refine (Below.heap_alloc _ _ _ (by omega)).trans ?_
    rw [hoA]; exact heap_alloc_new W2 _
  have a2 : ArgW ((W2.alloc oA).alloc o0) (.slice (some ⟨W2.heap.size + 1, 0, none⟩) 1 1) [0] := by
    refine argW_new (cs := #[.int .i64 0]) (t := 2) ?_ rfl rfl
    have := heap_alloc_new (W2.alloc oA) o0
    rw [s2] at this
    rw [this, ho0]
  have q3 := (World.cell?_of_block (n2 _ (World.block_lt_of_cell? W2 _ c3))).trans c3
  have hp2 := (HP.out.next (fun i hi => b2.block i hi)).next n2
  have hw2 := Walk_any hp2 (by have := sure_read; unfold sureT at this; rw [this]) a2 9
  rw [HE2.out] at hw2
  have B2 : Below w.heap.size w W2 := HB1.out.trans (b2.mono hsz)
  have HB2 : Hid (Below w.heap.size w ((W2.alloc oA).alloc o0)) := (B2.alloc B2.size _).alloc (by have := B2.size; omega) _
  have hsz2 : w.heap.size ≤ ((W2.alloc oA).alloc o0).heap.size := HB2.out.size
  have hsz3 : W2.heap.size < ((W2.alloc oA).alloc o0).heap.size := by simp; omega
  clear a2 hp2 B2 b2 s2 n2 c3
  dsimp only
  go_upto_region 5 with fail
  rw [← hoA]
  clear hoA
  go_wp2_with fail
  rw [← ho0]
  clear ho0
  generalize (W2.alloc oA).alloc o0 = W3 at *
  refine hw2.mono ?_
  rintro e W4 hpost
  obtain ⟨vb, rfl, ⟨vO, rfl, hrow⟩, b4⟩ := hpost.rs
  clear hpost hw2
  obtain ⟨bo, cq, rfl, _, hr1⟩ := hrow
  obtain ⟨g2, rfl, c1⟩ := hr1 (by decide)
  have r4 : RowW W4 (.slice (some ⟨g2, 0, none⟩) 1 cq) [0] := ⟨_, _, rfl, by unfold maxLen; decide, fun _ => ⟨g2, rfl, c1⟩⟩
  clear hr1 c1
  -- both are looked at
  obtain ⟨oB, hoB⟩ : ∃ o : Obj, o = .cells #[.int .i64 2, .int .i64 0, .int .i64 0, .slice (some ⟨g2, 0, none⟩) 1 cq] 42 := ⟨_, rfl⟩
  have n4 : ∀ i, i < W4.heap.size → (W4.alloc oB).heap[i]? = W4.heap[i]? := fun i hi => Below.heap_alloc _ _ _ hi
  have kB : (W4.alloc oB).heap[W4.heap.size]? = some (.cells #[.int .i64 2, .int .i64 0, .int .i64 0, .slice (some ⟨g2, 0, none⟩) 1 cq] 42 (0, 0)) := by
    rw [hoB]; exact heap_alloc_new W4 _
  have hl4 := b4.size
  have kA5 := ((n4 W2.heap.size (by omega)).trans (b4.block _ (by omega))).trans kA
  have hgl := World.block_lt_of_cell? W3 _ q3
  have q5 := (World.cell?_of_block (a := ⟨g1, 0, none⟩) ((n4 g1 (Nat.lt_of_lt_of_le hgl hl4)).trans (b4.block g1 hgl))).trans q3
  have ra : R4W (W4.alloc oB) ⟨1, 2, -1, [3]⟩ (.agg #[.int .i64 1, .int .i64 2, .int .i64 (-1), .slice (some ⟨g1, 0, none⟩) 1 cp]) := ⟨_, rfl, _, _, rfl, by unfold maxLen; decide, fun _ => ⟨g1, rfl, fun i hi => by
    obtain rfl : i = 0 := by have : i < 1 := hi; omega
    exact q5⟩⟩
  have rb : R4W (W4.alloc oB) ⟨2, 0, 0, [0]⟩ (.agg #[.int .i64 2, .int .i64 0, .int .i64 0, .slice (some ⟨g2, 0, none⟩) 1 cq]) := ⟨_, rfl, r4.next n4⟩
  have B5 : Below w.heap.size w (W4.alloc oB) := (HB2.out.trans (b4.mono hsz2)).alloc (by omega) _
  have hl5 : W4.heap.size < (W4.alloc oB).heap.size := by simp
  clear r4 n4 kA q3 b4
  dsimp only
  go_upto_region 6 with fail
  rw [← hoB]
  clear hoB
  generalize W4.alloc oB = W5 at *
  have hi1 : Calls Tryz.prog 25 #[.agg #[.int .i64 1, .int .i64 2, .int .i64 (-1), .slice (some ⟨g1, 0, none⟩) 1 cp], .bool true, .int .i64 2, .int .i64 0] W5 fun e w' => e = .returned (.bool true) ∧ Below W5.heap.size W5 w' := is_any ⟨1, 2, -1, [3]⟩ _ true 2 0 W5 ra
  obtain ⟨u0, u1, u2, u3, _⟩ := cells_four kA5
  have HRB : Hid _ := rb
  have HKA : Hid _ := kA5
  have HKB : Hid _ := kB
  have HB5 : Hid _ := B5
  have HQ5 : Hid _ := q5
  have hgl5 := World.block_lt_of_cell? W5 _ q5
  clear ra rb kA5 kB B5 q5
  go_wp2_with fail
  refine hi1.mono ?_
  rintro e W6 ⟨rfl, b6⟩
  have hl6 := b6.size
  have kB6 := (b6.block W4.heap.size (by omega)).trans HKB.out
  have kA6 := (b6.block W2.heap.size (by omega)).trans HKA.out
  have q6 := (World.cell?_of_block (a := ⟨g1, 0, none⟩) (b6.block g1 hgl5)).trans HQ5.out
  have hi2 : Calls Tryz.prog 25 #[.agg #[.int .i64 2, .int .i64 0, .int .i64 0, .slice (some ⟨g2, 0, none⟩) 1 cq], .bool false, .int .i64 0, .int .i64 0] W6 fun e w' => e = .returned (.bool true) ∧ Below W6.heap.size W6 w' := is_any ⟨2, 0, 0, [0]⟩ _ false 0 0 W6 (R4W.next (x := ⟨2, 0, 0, [0]⟩) HRB.out (fun i hi => b6.block i hi))
  have HB6 : Hid (Below w.heap.size w W6) := HB5.out.trans (b6.mono (by omega))
  obtain ⟨v0, v1, v2, v3, _⟩ := cells_four kB6
  have HK6 : Hid _ := kA6
  have HQ6 : Hid _ := q6
  have hgl6 : g1 < W6.heap.size := Nat.lt_of_lt_of_le hgl5 hl6
  clear kA6 kB6 q6 b6 hi1 u0 u1 u2 u3
  go_wp2_with fail
  refine hi2.mono ?_
  rintro e W7 ⟨rfl, b7⟩
  obtain ⟨_, _, _, u3, _⟩ := cells_four ((b7.block W2.heap.size (by omega)).trans HK6.out)
  have q7 := (World.cell?_of_block (a := ⟨g1, 0, none⟩) (b7.block g1 hgl6)).trans HQ6.out
  have HB7 : Hid (Below w.heap.size w W7) := HB6.out.trans (b7.mono (by omega))
  clear hi2 b7 v0 v1 v2 v3
  go_wp2
  go_ret
  exact ⟨rfl, HB7.out⟩
end Go.Proofs.YtikffmloeifkpaaGreatDoor
