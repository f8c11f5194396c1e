/- Reckoned: two operations of three arguments, as brackets say and as none do. -/
import Derived.Test.YtikffmloeifkpaaGreatDoorZLop
import Derived.Deep.Cut
namespace Go.Proofs.YtikffmloeifkpaaGreatDoor
open Go.RowKit Go.Lib Go.Deep Go.ChangeMaps Go.MapKept

/-- A program that is read of a text of the statement, whatever memory there is. -/
theorem read_solo {s : ByteArray} (w : World) (ht : Tab w) (hs : s.size ≤ 100) (hr : readC s = (0, 0)) : Calls Tryz.prog 19 #[.string s] w fun e w' => ∃ ab, e = .returned (.tuple #[.pointer (some ⟨ab, 0, none⟩), .agg #[.int .i64 0, .int .i64 0]]) ∧ PgW ab s w' ∧ Below w.heap.size w w' := by
  refine (Read_all s w ht (by unfold maxLen; omega)).mono ?_
  rintro e w' ⟨b, h⟩
  rcases h with ⟨h, _⟩ | ⟨_, ab, e1, hp⟩
  · rw [hr] at h; exact absurd rfl h
  · exact ⟨ab, e1, hp, b⟩
theorem PgW.off {ab k : Nat} {s : ByteArray} {w w' : World} {c : Array Value} (h : PgW ab s w) (hk : w.heap[k]? = some (.cells c 37 (0, 0))) (hw : ∀ i, i < w.heap.size → i ≠ k → w'.heap[i]? = w.heap[i]?) : PgW ab s w' := by
  obtain ⟨H, g, cap, pb, t, vA, vF, vS, h1, h2⟩ := h.ex
  exact ⟨H, g, cap, pb, t, vA, vF, vS, (hw _ (Array.getElem?_eq_some_iff.1 h1).1 (ne_typ h1 hk (by decide))).trans h1, h2.off hk hw⟩
def pickI (c : Bool) (x y : Int) : Int := if c then x else y
theorem isL {i j a b c : Int} : isB (resL i j a b c) ((opW i a b).2 && (opW j (opW i a b).1 c).2) (opW j (opW i a b).1 c).1 (if (opW i a b).2 then second i else 0) = true := by
  unfold resL
  cases h1 : (opW i a b).2 <;> cases h2 : (opW j (opW i a b).1 c).2 <;> simp [isB]
theorem isR {i j a b c : Int} : isB (resR i j a b c) ((opW j b c).2 && (opW i a (opW j b c).1).2) (opW i a (opW j b c).1).1 (if (opW j b c).2 then 0 else second i) = true := by
  unfold resR
  cases h1 : (opW j b c).2 <;> cases h2 : (opW i a (opW j b c).1).2 <;> simp [isB]

set_option maxRecDepth 100000 in
set_option maxHeartbeats 40000000 in
theorem Reckoned_any (x y a b c : Int) (w : World) (ht : Tab w) (hx : -9223372036854775808 ≤ x ∧ x ≤ 9223372036854775807) (hy : -9223372036854775808 ≤ y ∧ y ≤ 9223372036854775807) :
    Calls Tryz.prog 6 #[.int .i64 x, .int .i64 y, .int .i64 a, .int .i64 b, .int .i64 c] w fun e w' => e = .returned (.bool true) ∧ Below w.heap.size w w' := by
  have hs := sure_any w ht
  have h0 := tab_pos ht
  have HT : Hid (∀ w', Below w.heap.size w w' → Tab w') := fun w' h => ht.below h h0
  clear ht
  go_enter Tryz.func6, Tryz.ntmps6
  go_wp2_with fail
  refine hs.mono ?_
  rintro e W1 ⟨rfl, b1⟩
  have HB1 : Hid (Below w.heap.size w W1) := b1
  clear hs b1
  go_wp2_with fail
  refine (pick_any x 5 W1 hx (by decide)).mono ?_
  rintro e W1 ⟨⟨v, rfl, v0, v1, _⟩, rfl⟩
  go_wp2_with fail
  refine (pick_any y 5 W1 hy (by decide)).mono ?_
  rintro e W1 ⟨⟨u, rfl, u0, u1, _⟩, rfl⟩
  obtain ⟨i, rfl⟩ : ∃ i : Nat, v = i := ⟨v.toNat, by omega⟩
  obtain ⟨j, rfl⟩ : ∃ j : Nat, u = j := ⟨u.toNat, by omega⟩
  have hi : i < 5 := by omega
  have hj : j < 5 := by omega
  have hwi : IntKind.i64.wrap ((i : Int) + 1) = (i : Int) + 1 := IntWalk.i64_in _ (by omega)
  have hwj : IntKind.i64.wrap ((j : Int) + 1) = (j : Int) + 1 := IntWalk.i64_in _ (by omega)
  have hi1 : 0 ≤ (i : Int) ∧ (i : Int) < 5 := ⟨v0, v1⟩
  have hj1 : 0 ≤ (j : Int) ∧ (j : Int) < 5 := ⟨u0, u1⟩
  obtain ⟨rA, zA, wA⟩ := walk_A hi hj a b c
  obtain ⟨rB, zB, wB⟩ := walk_B hi hj a b c
  obtain ⟨rC, zC, wC⟩ := walk_C hi hj a b c
  have HA : Hid _ := wA
  have HB : Hid _ := wB
  have HC : Hid _ := wC
  have HRA : Hid (readC (txA i j) = (0, 0) ∧ (txA i j).size ≤ 100) := ⟨rA, zA⟩
  have HRB : Hid (readC (txB i j) = (0, 0) ∧ (txB i j).size ≤ 100) := ⟨rB, zB⟩
  have HRC : Hid (readC (txC i j) = (0, 0) ∧ (txC i j).size ≤ 100) := ⟨rC, zC⟩
  clear wA wB wC rA zA rB zB rC zC hx hy v0 v1 u0 u1
  -- the three texts
  go_upto_region 5 with fail
  go_cut [15, 16] from 33 (fun p f w' => (∃ ab, p = .pointer (some ⟨ab, 0, none⟩) ∧ PgW ab (txA i j) w') ∧ Below w.heap.size w w')
  case first => as_aux_lemma =>
    rename_i J K' hJ hK
    have y1 : (0 : Int) ≤ (i : Int) := hi1.1
    have y2 : (i : Int) ≤ (i : Int) + 1 := by omega
    have y3 : (i : Int) + 1 ≤ 5 := by omega
    have y4 : (0 : Int) ≤ (j : Int) := hj1.1
    have y5 : (j : Int) ≤ (j : Int) + 1 := by omega
    have y6 : (j : Int) + 1 ≤ 5 := by omega
    have y7 : (0 : Int) ≤ (i : Int) + 1 := by omega
    have y8 : (0 : Int) ≤ (j : Int) + 1 := by omega
    have yi : ((i : Int) + 1).toNat = i + 1 := by omega
    have yj : ((j : Int) + 1).toNat = j + 1 := by omega
    have yk : i + 1 ≤ 5 := by omega
    have yl : j + 1 ≤ 5 := by omega
    have hrd : ∀ w', Below w.heap.size w w' → Calls Tryz.prog 19 #[.string (txA i j)] w' fun e w2 => ∃ ab, e = .returned (.tuple #[.pointer (some ⟨ab, 0, none⟩), .agg #[.int .i64 0, .int .i64 0]]) ∧ PgW ab (txA i j) w2 ∧ Below w'.heap.size w' w2 := fun w' h => read_solo w' (HT.out _ h) HRA.out.2 HRA.out.1
    have heq : txA i j = ({ data := #[102, 110, 32, 109, 97, 105, 110, 40, 97, 44, 32, 98, 44, 32, 99, 41, 32, 123, 32, 114, 101, 116, 117, 114, 110, 32, 40, 97, 32] } : ByteArray) ++ ({ data := #[43, 45, 42, 47, 37] } : ByteArray).extract i (i + 1) ++ ({ data := #[32, 98, 41, 32] } : ByteArray) ++ ({ data := #[43, 45, 42, 47, 37] } : ByteArray).extract j (j + 1) ++ ({ data := #[32, 99, 59, 32, 125] } : ByteArray) := rfl
    generalize txA i j = sX at *
    clear HA HB HC HRA HRB HRC
    go_region_held3 (fun w' => True) (trivial)
      ((go_at_call 19; rw [← heq]; refine (hrd _ (by first | exact HB1.out.drew | exact Below.alloc HB1.out.drew HB1.out.size _)).mono ?_; rintro e W2 ⟨aX, rfl, hpX, b2⟩; try (have q0 : W2.heap[W1.heap.size]? = some (.cells #[.int .i64 0, .int .i64 0] 37 (0, 0)) := (b2.block _ (by simp)).trans (heap_alloc_new W1.drew _); obtain ⟨c0, c1, cz⟩ := cells01 q0)))
    all_goals (first | refine hK _ _ (Met.intro (hJ _ _ ?_)) | refine Met.intro (hJ _ _ ?_) | refine hJ _ _ ?_)
    all_goals (repeat apply Exists.intro)
    all_goals refine ⟨?_, rfl⟩
    · have hz : w.heap.size ≤ W2.heap.size := Nat.le_trans HB1.out.size b2.size
      exact ⟨⟨aX, rfl, hpX.next (fun k hk => Below.heap_alloc _ _ _ hk)⟩, Below.alloc (Below.trans HB1.out.drew (b2.mono HB1.out.size)) hz _⟩
    · have bW : Below w.heap.size w W2 := Below.trans (Below.alloc HB1.out.drew HB1.out.size _) (b2.mono (Nat.le_trans HB1.out.size (by simp)))
      have set_two_at : ∀ k, k < W2.heap.size → k ≠ W1.heap.size → ((W2.setCell ⟨W1.heap.size, 0, none⟩ (.int .i64 0)).setCell ⟨W1.heap.size, 1, none⟩ (.int .i64 0)).heap[k]? = W2.heap[k]? := fun k _ hk => set_two k hk
      exact ⟨⟨aX, rfl, PgW.off hpX q0 set_two_at⟩, (bW.setCell (p := ⟨W1.heap.size, 0, none⟩) HB1.out.size _).setCell (p := ⟨W1.heap.size, 1, none⟩) HB1.out.size _⟩
  case rest => as_aux_lemma =>
  obtain ⟨⟨aA, rfl, hpA⟩, hBA⟩ := hcut
  have HPA : Hid _ := hpA
  have HBA : Hid _ := hBA
  clear hpA hBA
  rename World => wA
  go_upto_region 6 with fail
  go_cut [17, 18] from 33 (fun p f w' => (∃ ab, p = .pointer (some ⟨ab, 0, none⟩) ∧ PgW ab (txB i j) w') ∧ PgW aA (txA i j) w' ∧ Below w.heap.size w w')
  case first => as_aux_lemma =>
    rename_i J K' hJ hK
    have y1 : (0 : Int) ≤ (i : Int) := hi1.1
    have y2 : (i : Int) ≤ (i : Int) + 1 := by omega
    have y3 : (i : Int) + 1 ≤ 5 := by omega
    have y4 : (0 : Int) ≤ (j : Int) := hj1.1
    have y5 : (j : Int) ≤ (j : Int) + 1 := by omega
    have y6 : (j : Int) + 1 ≤ 5 := by omega
    have y7 : (0 : Int) ≤ (i : Int) + 1 := by omega
    have y8 : (0 : Int) ≤ (j : Int) + 1 := by omega
    have yi : ((i : Int) + 1).toNat = i + 1 := by omega
    have yj : ((j : Int) + 1).toNat = j + 1 := by omega
    have yk : i + 1 ≤ 5 := by omega
    have yl : j + 1 ≤ 5 := by omega
    have hrd : ∀ w', Below w.heap.size w w' → Calls Tryz.prog 19 #[.string (txB i j)] w' fun e w2 => ∃ ab, e = .returned (.tuple #[.pointer (some ⟨ab, 0, none⟩), .agg #[.int .i64 0, .int .i64 0]]) ∧ PgW ab (txB i j) w2 ∧ Below w'.heap.size w' w2 := fun w' h => read_solo w' (HT.out _ h) HRB.out.2 HRB.out.1
    have heq : txB i j = ({ data := #[102, 110, 32, 109, 97, 105, 110, 40, 97, 44, 32, 98, 44, 32, 99, 41, 32, 123, 32, 114, 101, 116, 117, 114, 110, 32, 97, 32] } : ByteArray) ++ ({ data := #[43, 45, 42, 47, 37] } : ByteArray).extract i (i + 1) ++ ({ data := #[32, 40, 98, 32] } : ByteArray) ++ ({ data := #[43, 45, 42, 47, 37] } : ByteArray).extract j (j + 1) ++ ({ data := #[32, 99, 41, 59, 32, 125] } : ByteArray) := rfl
    generalize txB i j = sX at *
    clear HA HB HC HRA HRB HRC
    go_region_held3 (fun w' => True) (trivial)
      ((go_at_call 19; rw [← heq]; refine (hrd _ (by first | exact HBA.out.drew | exact Below.alloc HBA.out.drew HBA.out.size _)).mono ?_; rintro e W2 ⟨aX, rfl, hpX, b2⟩; try (have q0 : W2.heap[wA.heap.size]? = some (.cells #[.int .i64 0, .int .i64 0] 37 (0, 0)) := (b2.block _ (by simp)).trans (heap_alloc_new wA.drew _); obtain ⟨c0, c1, cz⟩ := cells01 q0)))
    all_goals (first | refine hK _ _ (Met.intro (hJ _ _ ?_)) | refine Met.intro (hJ _ _ ?_) | refine hJ _ _ ?_)
    all_goals (repeat apply Exists.intro)
    all_goals refine ⟨?_, rfl⟩
    · have hz : w.heap.size ≤ W2.heap.size := Nat.le_trans HBA.out.size b2.size
      exact ⟨⟨aX, rfl, hpX.next (fun k hk => Below.heap_alloc _ _ _ hk)⟩, PgW.next (PgW.next (w' := W2) HPA.out (fun k hk => b2.block k hk)) (fun k hk => Below.heap_alloc _ _ _ hk), Below.alloc (Below.trans HBA.out.drew (b2.mono HBA.out.size)) hz _⟩
    · have bW : Below w.heap.size w W2 := Below.trans (Below.alloc HBA.out.drew HBA.out.size _) (b2.mono (Nat.le_trans HBA.out.size (by simp)))
      have set_two_at : ∀ k, k < W2.heap.size → k ≠ wA.heap.size → ((W2.setCell ⟨wA.heap.size, 0, none⟩ (.int .i64 0)).setCell ⟨wA.heap.size, 1, none⟩ (.int .i64 0)).heap[k]? = W2.heap[k]? := fun k _ hk => set_two k hk
      exact ⟨⟨aX, rfl, PgW.off hpX q0 set_two_at⟩, PgW.off (PgW.next (w' := W2) HPA.out (fun k hk => (b2.block k (Nat.lt_trans hk (by simp))).trans (Below.heap_alloc wA.drew _ _ hk))) q0 set_two_at, (bW.setCell (p := ⟨wA.heap.size, 0, none⟩) HBA.out.size _).setCell (p := ⟨wA.heap.size, 1, none⟩) HBA.out.size _⟩
  case rest => as_aux_lemma =>
  obtain ⟨⟨aB, rfl, hpB⟩, hpA, hBB⟩ := hcut
  have HPA2 : Hid _ := hpA
  have HPB : Hid _ := hpB
  have HBB : Hid _ := hBB
  clear hpA hpB hBB HPA
  rename World => wB
  go_upto_region 7 with fail
  go_cut [19, 20] from 33 (fun p f w' => (∃ ab, p = .pointer (some ⟨ab, 0, none⟩) ∧ PgW ab (txC i j) w') ∧ PgW aA (txA i j) w' ∧ PgW aB (txB i j) w' ∧ Below w.heap.size w w')
  case first => as_aux_lemma =>
    rename_i J K' hJ hK
    have y1 : (0 : Int) ≤ (i : Int) := hi1.1
    have y2 : (i : Int) ≤ (i : Int) + 1 := by omega
    have y3 : (i : Int) + 1 ≤ 5 := by omega
    have y4 : (0 : Int) ≤ (j : Int) := hj1.1
    have y5 : (j : Int) ≤ (j : Int) + 1 := by omega
    have y6 : (j : Int) + 1 ≤ 5 := by omega
    have y7 : (0 : Int) ≤ (i : Int) + 1 := by omega
    have y8 : (0 : Int) ≤ (j : Int) + 1 := by omega
    have yi : ((i : Int) + 1).toNat = i + 1 := by omega
    have yj : ((j : Int) + 1).toNat = j + 1 := by omega
    have yk : i + 1 ≤ 5 := by omega
    have yl : j + 1 ≤ 5 := by omega
    have hrd : ∀ w', Below w.heap.size w w' → Calls Tryz.prog 19 #[.string (txC i j)] w' fun e w2 => ∃ ab, e = .returned (.tuple #[.pointer (some ⟨ab, 0, none⟩), .agg #[.int .i64 0, .int .i64 0]]) ∧ PgW ab (txC i j) w2 ∧ Below w'.heap.size w' w2 := fun w' h => read_solo w' (HT.out _ h) HRC.out.2 HRC.out.1
    have heq : txC i j = ({ data := #[102, 110, 32, 109, 97, 105, 110, 40, 97, 44, 32, 98, 44, 32, 99, 41, 32, 123, 32, 114, 101, 116, 117, 114, 110, 32, 97, 32] } : ByteArray) ++ ({ data := #[43, 45, 42, 47, 37] } : ByteArray).extract i (i + 1) ++ ({ data := #[32, 98, 32] } : ByteArray) ++ ({ data := #[43, 45, 42, 47, 37] } : ByteArray).extract j (j + 1) ++ ({ data := #[32, 99, 59, 32, 125] } : ByteArray) := rfl
    generalize txC i j = sX at *
    clear HA HB HC HRA HRB HRC
    go_region_held3 (fun w' => True) (trivial)
      ((go_at_call 19; rw [← heq]; refine (hrd _ (by first | exact HBB.out.drew | exact Below.alloc HBB.out.drew HBB.out.size _)).mono ?_; rintro e W2 ⟨aX, rfl, hpX, b2⟩; try (have q0 : W2.heap[wB.heap.size]? = some (.cells #[.int .i64 0, .int .i64 0] 37 (0, 0)) := (b2.block _ (by simp)).trans (heap_alloc_new wB.drew _); obtain ⟨c0, c1, cz⟩ := cells01 q0)))
    all_goals (first | refine hK _ _ (Met.intro (hJ _ _ ?_)) | refine Met.intro (hJ _ _ ?_) | refine hJ _ _ ?_)
    all_goals (repeat apply Exists.intro)
    all_goals refine ⟨?_, rfl⟩
    · have hz : w.heap.size ≤ W2.heap.size := Nat.le_trans HBB.out.size b2.size
      exact ⟨⟨aX, rfl, hpX.next (fun k hk => Below.heap_alloc _ _ _ hk)⟩, PgW.next (PgW.next (w' := W2) HPA2.out (fun k hk => b2.block k hk)) (fun k hk => Below.heap_alloc _ _ _ hk), PgW.next (PgW.next (w' := W2) HPB.out (fun k hk => b2.block k hk)) (fun k hk => Below.heap_alloc _ _ _ hk), Below.alloc (Below.trans HBB.out.drew (b2.mono HBB.out.size)) hz _⟩
    · have bW : Below w.heap.size w W2 := Below.trans (Below.alloc HBB.out.drew HBB.out.size _) (b2.mono (Nat.le_trans HBB.out.size (by simp)))
      have set_two_at : ∀ k, k < W2.heap.size → k ≠ wB.heap.size → ((W2.setCell ⟨wB.heap.size, 0, none⟩ (.int .i64 0)).setCell ⟨wB.heap.size, 1, none⟩ (.int .i64 0)).heap[k]? = W2.heap[k]? := fun k _ hk => set_two k hk
      exact ⟨⟨aX, rfl, PgW.off hpX q0 set_two_at⟩, PgW.off (PgW.next (w' := W2) HPA2.out (fun k hk => (b2.block k (Nat.lt_trans hk (by simp))).trans (Below.heap_alloc wB.drew _ _ hk))) q0 set_two_at, PgW.off (PgW.next (w' := W2) HPB.out (fun k hk => (b2.block k (Nat.lt_trans hk (by simp))).trans (Below.heap_alloc wB.drew _ _ hk))) q0 set_two_at, (bW.setCell (p := ⟨wB.heap.size, 0, none⟩) HBB.out.size _).setCell (p := ⟨wB.heap.size, 1, none⟩) HBB.out.size _⟩
  case rest => as_aux_lemma =>
  obtain ⟨⟨aC, rfl, hpC⟩, hpA, hpB, hBC⟩ := hcut
  rename World => wC
  clear HPA2 HPB HBA HBB
  have hl1 := hBC.size
  -- Walk of the first
  obtain ⟨oX, hoX⟩ : ∃ o : Obj, o = .cells #[.int .i64 a, .int .i64 b, .int .i64 c] 2 := ⟨_, rfl⟩
  have n1 : ∀ k, k < wC.heap.size → (wC.alloc oX).heap[k]? = wC.heap[k]? := fun k hk => Below.heap_alloc _ _ _ hk
  have a1 : ArgW (wC.alloc oX) (.slice (some ⟨wC.heap.size, 0, none⟩) 3 3) [a, b, c] := argW_new (cs := #[.int .i64 a, .int .i64 b, .int .i64 c]) (t := 2) (by rw [hoX]; exact heap_alloc_new wC _) rfl rfl
  have hw1 := Walk_any (hpA.next n1) (by rw [HRA.out.1]) a1 9
  rw [HA.out] at hw1
  have B1 : Below w.heap.size w (wC.alloc oX) := hBC.alloc hl1 _
  have HPB1 : Hid _ := hpB.next n1
  have HPC1 : Hid _ := hpC.next n1
  have HB1 : Hid _ := B1
  have hm1 : w.heap.size ≤ (wC.alloc oX).heap.size := B1.size
  clear hpA hpB hpC hBC n1 a1 B1 HA
  go_wp2_with fail
  rw [← hoX]
  generalize wC.alloc oX = w1 at *
  refine hw1.mono ?_
  rintro e w2 hpost
  obtain ⟨v1, rfl, hx1, b2⟩ := hpost.rs
  have hxA := hx1
  generalize hRL : resL (i : Int) (j : Int) a b c = RL at *
  obtain ⟨vO, rfl, hrow⟩ := hx1
  obtain ⟨so, sn, sc, rfl⟩ : ∃ a n p, vO = .slice a n p := by obtain ⟨ao, cp, e, _⟩ := hrow; exact ⟨_, _, _, e⟩
  clear hpost hw1 hrow
  obtain ⟨oL, hoL⟩ : ∃ o : Obj, o = .cells #[.int .i64 RL.fin, .int .i64 RL.value, .int .i64 RL.site, .slice so sn sc] 42 := ⟨_, rfl⟩
  have kL : (w2.alloc oL).heap[w2.heap.size]? = some (.cells #[.int .i64 RL.fin, .int .i64 RL.value, .int .i64 RL.site, .slice so sn sc] 42 (0, 0)) := by
    rw [hoL]; exact heap_alloc_new w2 _
  have nL : ∀ k, k < w2.heap.size → (w2.alloc oL).heap[k]? = w2.heap[k]? := fun k hk => Below.heap_alloc _ _ _ hk
  have B3 : Below w.heap.size w (w2.alloc oL) := (HB1.out.trans (b2.mono hm1)).alloc (by have := b2.size; omega) _
  have hpB3 := (PgW.next HPB1.out (fun k hk => b2.block k hk)).next nL
  have hpC3 := (PgW.next HPC1.out (fun k hk => b2.block k hk)).next nL
  have rL3 := R4W.next hxA nL
  have hl3 : w2.heap.size < (w2.alloc oL).heap.size := by simp
  have HK3 : Hid _ := kL
  have HP3 : Hid _ := hpB3
  have HQ3 : Hid _ := hpC3
  have HR3 : Hid _ := rL3
  have HB3 : Hid _ := B3
  have hm3 := B3.size
  clear kL nL hpB3 hpC3 rL3 B3 hxA HPB1 HPC1 HB1 b2
  go_upto_region 11 with fail
  rw [← hoL]
  clear hoL
  generalize w2.alloc oL = w3 at *
  -- Walk of the second
  obtain ⟨oY, hoY⟩ : ∃ o : Obj, o = .cells #[.int .i64 a, .int .i64 b, .int .i64 c] 2 := ⟨_, rfl⟩
  have n4 : ∀ k, k < w3.heap.size → (w3.alloc oY).heap[k]? = w3.heap[k]? := fun k hk => Below.heap_alloc _ _ _ hk
  have a4 : ArgW (w3.alloc oY) (.slice (some ⟨w3.heap.size, 0, none⟩) 3 3) [a, b, c] := argW_new (cs := #[.int .i64 a, .int .i64 b, .int .i64 c]) (t := 2) (by rw [hoY]; exact heap_alloc_new w3 _) rfl rfl
  have hw4 := Walk_any (PgW.next HP3.out n4) (by rw [HRB.out.1]) a4 9
  rw [HB.out] at hw4
  have B4 : Below w.heap.size w (w3.alloc oY) := HB3.out.alloc hm3 _
  have HQ4 : Hid _ := PgW.next HQ3.out n4
  have HK4 : Hid _ := (n4 w2.heap.size hl3).trans HK3.out
  have HR4 : Hid _ := R4W.next HR3.out n4
  have HB4 : Hid _ := B4
  have hm4 := B4.size
  have hl4 : w2.heap.size < (w3.alloc oY).heap.size := by simp; omega
  clear n4 a4 B4 HB HP3 HQ3 HK3 HR3 HB3
  go_wp2_with fail
  rw [← hoY]
  generalize w3.alloc oY = w4 at *
  refine hw4.mono ?_
  rintro e w5 hpost
  obtain ⟨v2, rfl, hx2, b5⟩ := hpost.rs
  have hxB := hx2
  generalize hRR : resR (i : Int) (j : Int) a b c = RR at *
  obtain ⟨vO, rfl, hrow⟩ := hx2
  obtain ⟨to, tn, tc, rfl⟩ : ∃ a n p, vO = .slice a n p := by obtain ⟨ao, cp, e, _⟩ := hrow; exact ⟨_, _, _, e⟩
  clear hpost hw4 hrow
  obtain ⟨oR, hoR⟩ : ∃ o : Obj, o = .cells #[.int .i64 RR.fin, .int .i64 RR.value, .int .i64 RR.site, .slice to tn tc] 42 := ⟨_, rfl⟩
  have kR : (w5.alloc oR).heap[w5.heap.size]? = some (.cells #[.int .i64 RR.fin, .int .i64 RR.value, .int .i64 RR.site, .slice to tn tc] 42 (0, 0)) := by
    rw [hoR]; exact heap_alloc_new w5 _
  have nR : ∀ k, k < w5.heap.size → (w5.alloc oR).heap[k]? = w5.heap[k]? := fun k hk => Below.heap_alloc _ _ _ hk
  have B6 : Below w.heap.size w (w5.alloc oR) := (HB4.out.trans (b5.mono hm4)).alloc (by have := b5.size; omega) _
  have hs5 := b5.size
  have HQ6 : Hid _ := (PgW.next HQ4.out (fun k hk => b5.block k hk)).next nR
  have HK6 : Hid _ := ((nR w2.heap.size (by omega)).trans (b5.block _ hl4)).trans HK4.out
  have HR6 : Hid _ := R4W.next (R4W.next HR4.out (fun k hk => b5.block k hk)) nR
  have HS6 : Hid _ := R4W.next hxB nR
  have HL6 : Hid _ := kR
  have HB6 : Hid _ := B6
  have hm6 := B6.size
  have hl6 : w5.heap.size < (w5.alloc oR).heap.size := by simp
  have hl7 : w2.heap.size < (w5.alloc oR).heap.size := by simp; omega
  clear kR nR B6 hxB b5 HQ4 HK4 HR4 HB4
  go_upto_region 12 with fail
  rw [← hoR]
  clear hoR
  generalize w5.alloc oR = w6 at *
  -- Walk of the third
  obtain ⟨oZ, hoZ⟩ : ∃ o : Obj, o = .cells #[.int .i64 a, .int .i64 b, .int .i64 c] 2 := ⟨_, rfl⟩
  have n7 : ∀ k, k < w6.heap.size → (w6.alloc oZ).heap[k]? = w6.heap[k]? := fun k hk => Below.heap_alloc _ _ _ hk
  have a7 : ArgW (w6.alloc oZ) (.slice (some ⟨w6.heap.size, 0, none⟩) 3 3) [a, b, c] := argW_new (cs := #[.int .i64 a, .int .i64 b, .int .i64 c]) (t := 2) (by rw [hoZ]; exact heap_alloc_new w6 _) rfl rfl
  have hw7 := Walk_any (PgW.next HQ6.out n7) (by rw [HRC.out.1]) a7 9
  rw [HC.out] at hw7
  have B7 : Below w.heap.size w (w6.alloc oZ) := HB6.out.alloc hm6 _
  have HK7 : Hid _ := (n7 w2.heap.size hl7).trans HK6.out
  have HL7 : Hid _ := (n7 w5.heap.size hl6).trans HL6.out
  have HR7 : Hid _ := R4W.next HR6.out n7
  have HS7 : Hid _ := R4W.next HS6.out n7
  have HB7 : Hid _ := B7
  have hm7 := B7.size
  have hl8 : w2.heap.size < (w6.alloc oZ).heap.size := by simp; omega
  have hl9 : w5.heap.size < (w6.alloc oZ).heap.size := by simp; omega
  clear n7 a7 B7 HC HQ6 HK6 HL6 HR6 HS6 HB6
  go_wp2_with fail
  rw [← hoZ]
  generalize w6.alloc oZ = w7 at *
  refine hw7.mono ?_
  rintro e w8 hpost
  obtain ⟨v3, rfl, hx3, b8⟩ := hpost.rs
  have hxC := hx3
  generalize hRN : (if i < 2 ∧ 1 < j then RR else RL) = RN at *
  obtain ⟨vO, rfl, hrow⟩ := hx3
  obtain ⟨uo, un, uc, rfl⟩ : ∃ a n p, vO = .slice a n p := by obtain ⟨ao, cp, e, _⟩ := hrow; exact ⟨_, _, _, e⟩
  clear hpost hw7 hrow
  obtain ⟨oN, hoN⟩ : ∃ o : Obj, o = .cells #[.int .i64 RN.fin, .int .i64 RN.value, .int .i64 RN.site, .slice uo un uc] 42 := ⟨_, rfl⟩
  have kN : (w8.alloc oN).heap[w8.heap.size]? = some (.cells #[.int .i64 RN.fin, .int .i64 RN.value, .int .i64 RN.site, .slice uo un uc] 42 (0, 0)) := by
    rw [hoN]; exact heap_alloc_new w8 _
  have nN : ∀ k, k < w8.heap.size → (w8.alloc oN).heap[k]? = w8.heap[k]? := fun k hk => Below.heap_alloc _ _ _ hk
  have hs8 := b8.size
  have B9 : Below w.heap.size w (w8.alloc oN) := (HB7.out.trans (b8.mono hm7)).alloc (by omega) _
  have K9 := ((nN w2.heap.size (by omega)).trans (b8.block _ hl8)).trans HK7.out
  have L9 := ((nN w5.heap.size (by omega)).trans (b8.block _ hl9)).trans HL7.out
  have R9 := R4W.next (R4W.next HR7.out (fun k hk => b8.block k hk)) nN
  have S9 := R4W.next (R4W.next HS7.out (fun k hk => b8.block k hk)) nN
  have T9 := R4W.next hxC nN
  have z1 : w2.heap.size < (w8.alloc oN).heap.size := by simp; omega
  have z2 : w5.heap.size < (w8.alloc oN).heap.size := by simp; omega
  have z3 : w8.heap.size < (w8.alloc oN).heap.size := by simp
  have HF : Hid (∀ w', Below (w8.alloc oN).heap.size (w8.alloc oN) w' →
      (w'.heap[w2.heap.size]? = some (.cells #[.int .i64 RL.fin, .int .i64 RL.value, .int .i64 RL.site, .slice so sn sc] 42 (0, 0)) ∧
       w'.heap[w5.heap.size]? = some (.cells #[.int .i64 RR.fin, .int .i64 RR.value, .int .i64 RR.site, .slice to tn tc] 42 (0, 0)) ∧
       w'.heap[w8.heap.size]? = some (.cells #[.int .i64 RN.fin, .int .i64 RN.value, .int .i64 RN.site, .slice uo un uc] 42 (0, 0))) ∧
      (R4W w' RL (.agg #[.int .i64 RL.fin, .int .i64 RL.value, .int .i64 RL.site, .slice so sn sc]) ∧
       R4W w' RR (.agg #[.int .i64 RR.fin, .int .i64 RR.value, .int .i64 RR.site, .slice to tn tc]) ∧
       R4W w' RN (.agg #[.int .i64 RN.fin, .int .i64 RN.value, .int .i64 RN.site, .slice uo un uc])) ∧ Below w.heap.size w w') := fun w' hb =>
    ⟨⟨(hb.block _ z1).trans K9, (hb.block _ z2).trans L9, (hb.block _ z3).trans kN⟩, ⟨R4W.next R9 (fun k hk => hb.block k hk), R4W.next S9 (fun k hk => hb.block k hk), R4W.next T9 (fun k hk => hb.block k hk)⟩, B9.trans (hb.mono B9.size)⟩
  have HRL : Hid (isB RL ((opW i a b).2 && (opW j (opW i a b).1 c).2) (opW j (opW i a b).1 c).1 (if (opW i a b).2 then second i else 0) = true) := by rw [Hid, ← hRL]; exact isL
  have HRR : Hid (isB RR ((opW j b c).2 && (opW i a (opW j b c).1).2) (opW i a (opW j b c).1).1 (if (opW j b c).2 then 0 else second i) = true) := by rw [Hid, ← hRR]; exact isR
  have HRN : Hid _ := hRN
  clear kN nN B9 K9 L9 R9 S9 T9 hxC b8 HK7 HL7 HR7 HS7 HB7 HRA HRB HRC hRL hRR hRN hs8 hs5 z1 z2 z3 hl3 hl4 hl6 hl7 hl8 hl9 hm1 hm3 hm4 hm6 hm7 hl1 hoX hoY hoZ HT HB1 h0
  go_upto_region 13 with fail
  rw [← hoN]
  clear hoN
  generalize w8.alloc oN = w9 at *
  have b99 : Below w9.heap.size w9 w9 := Below.refl _ _
  -- the operations of the left reading
  have ho1 := operation_any i hi a b w9
  generalize hq1 : opW (i : Int) a b = q1 at *
  obtain ⟨v1, one⟩ := q1
  dsimp only at *
  have ho2 := operation_any j hj v1 c w9
  generalize hq2 : opW (j : Int) v1 c = q2 at *
  obtain ⟨v2, two⟩ := q2
  dsimp only at *
  go_wp2_with fail
  refine ho1.mono ?_
  rintro e w9 ⟨rfl, rfl⟩
  go_wp2_with fail
  refine ho2.mono ?_
  rintro e w9 ⟨rfl, rfl⟩
  clear ho1 ho2 hq1 hq2
  go_upto_if 139 with fail
  go_cut [28] from 33 (fun s w' => s = .int .i64 (second i) ∧ w9 = w')
  case first => as_aux_lemma =>
    by_cases h : 2 < (i : Int)
    · have t : decide (2 < (i : Int)) = true := by simp; omega
      have hs : Hid (second i = 1) := by rw [Hid]; unfold second; rw [if_pos (by omega)]
      go_wp2
      go_meet
      case rel => exact ⟨by rw [hs.out], rfl⟩
    · have t : decide (2 < (i : Int)) = false := by simp; omega
      have hs : Hid (second i = 0) := by rw [Hid]; unfold second; rw [if_neg (by omega)]
      go_wp2
      go_meet
      case rel => exact ⟨by rw [hs.out], rfl⟩
  case rest => as_aux_lemma =>
  obtain ⟨rfl, hwc⟩ := hcut
  subst hwc
  -- where the left one traps
  go_upto_if 140 with fail
  go_cut [29] from 33 (fun s w' => s = .int .i64 (pickI one (second i) 0) ∧ w9 = w')
  case first => as_aux_lemma =>
    cases one
    · go_wp2
      go_meet
      case rel => exact ⟨rfl, rfl⟩
    · go_wp2
      go_meet
      case rel => exact ⟨rfl, rfl⟩
  case rest => as_aux_lemma =>
  obtain ⟨rfl, hwc⟩ := hcut
  subst hwc
  go_upto_region 21 with fail
  go_cut [30] from 33 (fun s w' => s = .bool true ∧ Below w9.heap.size w9 w')
  case first => as_aux_lemma =>
    cases one <;> cases two
    · have hb : isB RL false v2 (0) = true := HRL.out
      have hi1 := is_any RL (.agg #[.int .i64 RL.fin, .int .i64 RL.value, .int .i64 RL.site, .slice so sn sc]) false v2 (0) w9 (HF.out w9 b99).2.1.1
      rw [hb] at hi1
      obtain ⟨p0, p1, p2, p3, _⟩ := cells_four (HF.out w9 b99).1.1
      go_wp2_with fail
      refine hi1.mono ?_
      rintro e wz ⟨rfl, bz⟩
      have hbz : Below w9.heap.size w9 wz := b99.trans (bz.mono b99.size)
      clear hi1 bz p0 p1 p2 p3
      go_wp2
      go_meet
      case rel => exact ⟨rfl, hbz⟩
    · have hb : isB RL false v2 (0) = true := HRL.out
      have hi1 := is_any RL (.agg #[.int .i64 RL.fin, .int .i64 RL.value, .int .i64 RL.site, .slice so sn sc]) false v2 (0) w9 (HF.out w9 b99).2.1.1
      rw [hb] at hi1
      obtain ⟨p0, p1, p2, p3, _⟩ := cells_four (HF.out w9 b99).1.1
      go_wp2_with fail
      refine hi1.mono ?_
      rintro e wz ⟨rfl, bz⟩
      have hbz : Below w9.heap.size w9 wz := b99.trans (bz.mono b99.size)
      clear hi1 bz p0 p1 p2 p3
      go_wp2
      go_meet
      case rel => exact ⟨rfl, hbz⟩
    · have hb : isB RL false v2 (second i) = true := HRL.out
      have hi1 := is_any RL (.agg #[.int .i64 RL.fin, .int .i64 RL.value, .int .i64 RL.site, .slice so sn sc]) false v2 (second i) w9 (HF.out w9 b99).2.1.1
      rw [hb] at hi1
      obtain ⟨p0, p1, p2, p3, _⟩ := cells_four (HF.out w9 b99).1.1
      go_wp2_with fail
      refine hi1.mono ?_
      rintro e wz ⟨rfl, bz⟩
      have hbz : Below w9.heap.size w9 wz := b99.trans (bz.mono b99.size)
      clear hi1 bz p0 p1 p2 p3
      go_wp2
      go_meet
      case rel => exact ⟨rfl, hbz⟩
    · have hb : isB RL true v2 (second i) = true := HRL.out
      have hi1 := is_any RL (.agg #[.int .i64 RL.fin, .int .i64 RL.value, .int .i64 RL.site, .slice so sn sc]) true v2 (second i) w9 (HF.out w9 b99).2.1.1
      rw [hb] at hi1
      obtain ⟨p0, p1, p2, p3, _⟩ := cells_four (HF.out w9 b99).1.1
      go_wp2_with fail
      refine hi1.mono ?_
      rintro e wz ⟨rfl, bz⟩
      have hbz : Below w9.heap.size w9 wz := b99.trans (bz.mono b99.size)
      clear hi1 bz p0 p1 p2 p3
      go_wp2
      go_meet
      case rel => exact ⟨rfl, hbz⟩
  case rest => as_aux_lemma =>
  obtain ⟨rfl, b10⟩ := hcut
  rename World => w10
  -- the operations of the right reading
  have ho3 := operation_any j hj b c w10
  generalize hq3 : opW (j : Int) b c = q3 at *
  obtain ⟨v3, one'⟩ := q3
  dsimp only at *
  have ho4 := operation_any i hi a v3 w10
  generalize hq4 : opW (i : Int) a v3 = q4 at *
  obtain ⟨v4, two'⟩ := q4
  dsimp only at *
  go_wp2_with fail
  refine ho3.mono ?_
  rintro e w10 ⟨rfl, rfl⟩
  go_wp2_with fail
  refine ho4.mono ?_
  rintro e w10 ⟨rfl, rfl⟩
  clear ho3 ho4 hq3 hq4
  go_upto_if 165 with fail
  go_cut [29] from 33 (fun s w' => s = .int .i64 (pickI one' 0 (second i)) ∧ w10 = w')
  case first => as_aux_lemma =>
    cases one'
    · go_wp2
      go_meet
      case rel => exact ⟨rfl, rfl⟩
    · go_wp2
      go_meet
      case rel => exact ⟨rfl, rfl⟩
  case rest => as_aux_lemma =>
  obtain ⟨rfl, hwc⟩ := hcut
  subst hwc
  go_upto_region 27 with fail
  go_cut [31] from 33 (fun s w' => s = .bool true ∧ Below w9.heap.size w9 w')
  case first => as_aux_lemma =>
    cases one' <;> cases two'
    · have hb : isB RR false v4 (second i) = true := HRR.out
      have hi1 := is_any RR (.agg #[.int .i64 RR.fin, .int .i64 RR.value, .int .i64 RR.site, .slice to tn tc]) false v4 (second i) w10 (HF.out w10 b10).2.1.2.1
      rw [hb] at hi1
      obtain ⟨p0, p1, p2, p3, _⟩ := cells_four (HF.out w10 b10).1.2.1
      go_wp2_with fail
      refine hi1.mono ?_
      rintro e wz ⟨rfl, bz⟩
      have hbz : Below w9.heap.size w9 wz := b10.trans (bz.mono b10.size)
      clear hi1 bz p0 p1 p2 p3
      go_wp2
      go_meet
      case rel => exact ⟨rfl, hbz⟩
    · have hb : isB RR false v4 (second i) = true := HRR.out
      have hi1 := is_any RR (.agg #[.int .i64 RR.fin, .int .i64 RR.value, .int .i64 RR.site, .slice to tn tc]) false v4 (second i) w10 (HF.out w10 b10).2.1.2.1
      rw [hb] at hi1
      obtain ⟨p0, p1, p2, p3, _⟩ := cells_four (HF.out w10 b10).1.2.1
      go_wp2_with fail
      refine hi1.mono ?_
      rintro e wz ⟨rfl, bz⟩
      have hbz : Below w9.heap.size w9 wz := b10.trans (bz.mono b10.size)
      clear hi1 bz p0 p1 p2 p3
      go_wp2
      go_meet
      case rel => exact ⟨rfl, hbz⟩
    · have hb : isB RR false v4 (0) = true := HRR.out
      have hi1 := is_any RR (.agg #[.int .i64 RR.fin, .int .i64 RR.value, .int .i64 RR.site, .slice to tn tc]) false v4 (0) w10 (HF.out w10 b10).2.1.2.1
      rw [hb] at hi1
      obtain ⟨p0, p1, p2, p3, _⟩ := cells_four (HF.out w10 b10).1.2.1
      go_wp2_with fail
      refine hi1.mono ?_
      rintro e wz ⟨rfl, bz⟩
      have hbz : Below w9.heap.size w9 wz := b10.trans (bz.mono b10.size)
      clear hi1 bz p0 p1 p2 p3
      go_wp2
      go_meet
      case rel => exact ⟨rfl, hbz⟩
    · have hb : isB RR true v4 (0) = true := HRR.out
      have hi1 := is_any RR (.agg #[.int .i64 RR.fin, .int .i64 RR.value, .int .i64 RR.site, .slice to tn tc]) true v4 (0) w10 (HF.out w10 b10).2.1.2.1
      rw [hb] at hi1
      obtain ⟨p0, p1, p2, p3, _⟩ := cells_four (HF.out w10 b10).1.2.1
      go_wp2_with fail
      refine hi1.mono ?_
      rintro e wz ⟨rfl, bz⟩
      have hbz : Below w9.heap.size w9 wz := b10.trans (bz.mono b10.size)
      clear hi1 bz p0 p1 p2 p3
      go_wp2
      go_meet
      case rel => exact ⟨rfl, hbz⟩
  case rest => as_aux_lemma =>
  obtain ⟨rfl, b11⟩ := hcut
  rename World => w11
  -- no brackets
  obtain ⟨⟨kL, kR, kN⟩, ⟨rL, rR, rN⟩, b0⟩ := HF.out w11 b11
  obtain ⟨c, hc⟩ : ∃ c : Bool, c = true ↔ RN = RL := by
    by_cases h : RN = RL
    · exact ⟨true, by simp [h]⟩
    · exact ⟨false, by simp [h]⟩
  have hsm := same_any RN RL _ _ w11 rN rL c hc
  obtain ⟨p0, p1, p2, p3, _⟩ := cells_four kL
  obtain ⟨q0, q1, q2, q3, _⟩ := cells_four kN
  have HC : Hid _ := hc
  clear kL kR kN rL rR rN hc
  go_wp2_with fail
  refine hsm.mono ?_
  rintro e w12 ⟨rfl, b12⟩
  have b13 : Below w9.heap.size w9 w12 := b11.trans (b12.mono b11.size)
  obtain ⟨⟨kL, kR, kN⟩, ⟨rL, rR, rN⟩, b0⟩ := HF.out w12 b13
  have HB0 : Hid (Below w.heap.size w w12) := b0
  clear hsm p0 p1 p2 p3 q0 q1 q2 q3 b12
  obtain ⟨p0, p1, p2, p3, _⟩ := cells_four kR
  obtain ⟨q0, q1, q2, q3, _⟩ := cells_four kN
  by_cases h1 : i < 2
  · have t1 : decide ((i : Int) < 2) = true := by simp; omega
    by_cases h2 : 1 < j
    · have t2 : decide (1 < (j : Int)) = true := by simp; omega
      have hN : RN = RR := by rw [← HRN.out, if_pos ⟨h1, h2⟩]
      have hsm := same_any RN RR _ _ w12 rN rR true (by simp [hN])
      clear kL kR kN rL rR rN hN h1 h2
      go_wp2_with fail
      refine hsm.mono ?_
      rintro e w14 ⟨rfl, b14⟩
      have HB1 : Hid (Below w.heap.size w w14) := HB0.out.trans (b14.mono HB0.out.size)
      clear hsm b14 p0 p1 p2 p3 q0 q1 q2 q3
      go_wp2
      go_ret
      exact ⟨rfl, HB1.out⟩
    · have t2 : decide (1 < (j : Int)) = false := by simp; omega
      have hct : c = true := HC.out.2 (by rw [← HRN.out, if_neg (fun h => h2 h.2)])
      subst hct
      clear kL kR kN rL rR rN h1 h2
      go_wp2
      go_ret
      exact ⟨rfl, HB0.out⟩
  · have t1 : decide ((i : Int) < 2) = false := by simp; omega
    have hct : c = true := HC.out.2 (by rw [← HRN.out, if_neg (fun h => h1 h.1)])
    subst hct
    clear kL kR kN rL rR rN h1
    go_wp2
    go_ret
    exact ⟨rfl, HB0.out⟩
end Go.Proofs.YtikffmloeifkpaaGreatDoor
