/- Less: with less fuel a run ends as with more, or it is Spent and has told a beginning of it. -/
import Derived.Test.YtikffmloeifkpaaGreatDoorM25
import Derived.Test.YtikffmloeifkpaaGreatDoorZXles
namespace Go.Proofs.YtikffmloeifkpaaGreatDoor
open Go.RowKit Go.Lib Go.Deep Go.ChangeMaps Go.MapKept

set_option maxRecDepth 100000 in
set_option maxHeartbeats 8000000 in
theorem Less_any (s : ByteArray) (va : Value) (args : List Int) (fuel less : Int) (w : World) (ht : Tab w) (hm : s.size ≤ maxLen) (ha : ArgW w va args) (hf : -9223372036854775808 ≤ fuel ∧ fuel ≤ 9223372036854775807) (hl : -9223372036854775808 ≤ less ∧ less ≤ 9223372036854775807) :
    Calls Tryz.prog 5 #[.string s, va, .int .i64 fuel, .int .i64 less] w fun e w' => e = .returned (.bool true) ∧ Below w.heap.size w w' := by
  have h0 := tab_pos ht
  have hs := sure_any w ht
  have HA : Hid (ArgW w va args) := ha
  obtain ⟨sp, cp, e0, _⟩ := ha
  have HT : Hid (Tab w) := ht
  have HP1 : Hid _ := fun c hc w => pick_any c 40000 w hc (by decide)
  clear ht
  subst e0
  go_enter Tryz.func5, Tryz.ntmps5
  go_wp2_with fail
  refine hs.mono ?_
  rintro e W1 ⟨rfl, b1⟩
  have hr := Read_all s W1 (HT.out.below b1 h0) hm
  have hl1 := b1.size
  clear hs
  go_wp2_with fail
  refine hr.mono ?_
  rintro e W2 ⟨b2, hres⟩
  have hl2 := b2.size
  have B2 : Below w.heap.size w W2 := b1.trans (b2.mono (by omega))
  clear hr
  rcases hres with ⟨hc, rfl⟩ | ⟨hc, ab, rfl, hp⟩
  · have HB : Hid (Below w.heap.size w (W2.alloc (.cells #[.int .i64 (readC s).1, .int .i64 (readC s).2] 37))) := B2.alloc B2.size _
    clear B2 b1 b2
    go_wp2
    go_ret
    exact ⟨rfl, HB.out⟩
  · obtain ⟨oF, hoF⟩ : ∃ o : Obj, o = .cells #[.int .i64 0, .int .i64 0] 37 := ⟨_, rfl⟩
    have B3 : Below w.heap.size w (W2.alloc oF) := B2.alloc B2.size _
    have hp3 := hp.next (w' := W2.alloc oF) (fun i hi => Below.heap_alloc _ _ _ hi)
    clear hp B2 b1 b2
    go_upto_region 3 with fail
    rw [← hoF]
    clear hoF
    have HB3 : Hid _ := B3
    have HP3 : Hid _ := hp3
    have HC : Hid ((readC s).1 = 0) := hc
    clear B3 hp3 hc
    generalize W2.alloc oF = W3 at *
    go_wp2_with fail
    refine (HP1.out fuel hf _).mono ?_
    rintro e W3 ⟨⟨n, rfl, n0, n1, _⟩, rfl⟩
    have hwn : IntKind.i64.wrap (n + 1) = n + 1 := IntWalk.i64_in _ (by omega)
    have hpm := pick_any less (n + 1) W3 hl (by omega)
    clear HP1
    go_wp2_with fail
    refine hpm.mono ?_
    rintro e W3 ⟨⟨m, rfl, m0, m1, _⟩, rfl⟩
    have hlss := run_less (treeOf s) (resM (rdT s)) args (f := n) (f' := m) (by omega)
    have hlss : (walkC s args m = walkC s args n ∧ 1 ≤ (walkC s args m).fin ∧ (walkC s args m).fin ≤ 5) ∨ ((walkC s args m).fin = 3 ∧ (walkC s args m).outs <+: (walkC s args n).outs) := hlss
    have HLS : Hid _ := hlss
    have ha3 := HA.out.next (fun i hi => HB3.out.block i hi)
    have hw1 := Walk_any HP3.out HC.out ha3 n
    clear hpm hlss
    go_wp2_with fail
    refine hw1.mono ?_
    rintro e W4 hpost
    obtain ⟨va, rfl, hx, b4⟩ := hpost.rs
    generalize walkC s args n = x at *
    obtain ⟨vO, rfl, hrow⟩ := hx
    obtain ⟨xo, xp, rfl, hrow⟩ : ∃ a p, vO = .slice a x.outs.length p ∧ RowW W4 vO x.outs := by
      obtain ⟨ao, cp, e, h⟩ := hrow
      exact ⟨ao, cp, e, ⟨ao, cp, e, h⟩⟩
    have hl3 := HB3.out.size
    have B4 : Below w.heap.size w W4 := HB3.out.trans (b4.mono hl3)
    obtain ⟨oA, hoA⟩ : ∃ o : Obj, o = .cells #[.int .i64 x.fin, .int .i64 x.value, .int .i64 x.site, .slice xo x.outs.length xp] 42 := ⟨_, rfl⟩
    have kA : (W4.alloc oA).heap[W4.heap.size]? = some (.cells #[.int .i64 x.fin, .int .i64 x.value, .int .i64 x.site, .slice xo x.outs.length xp] 42 (0, 0)) := by
      rw [hoA]; exact heap_alloc_new W4 _
    have nA : ∀ i, i < W4.heap.size → (W4.alloc oA).heap[i]? = W4.heap[i]? := fun i hi => Below.heap_alloc _ _ _ hi
    have rA := hrow.next nA
    have BA : Below w.heap.size w (W4.alloc oA) := B4.alloc B4.size _
    have hpA := (HP3.out.next (fun i hi => b4.block i hi)).next nA
    have hw2 := Walk_any hpA HC.out (HA.out.next (fun i hi => BA.block i hi)) m
    have hlA : W4.heap.size < (W4.alloc oA).heap.size := by simp
    have HRA : Hid _ := rA
    have HKA : Hid _ := kA
    have HBA : Hid _ := BA
    clear hpost hrow rA kA nA BA hpA B4 b4 hw1 ha3
    go_upto_region 10 with fail
    rw [← hoA]
    clear hoA
    generalize W4.alloc oA = W5 at *
    go_wp2_with fail
    refine hw2.mono ?_
    rintro e W6 hpost
    obtain ⟨vb, rfl, hy, b6⟩ := hpost.rs
    generalize walkC s args m = y at *
    obtain ⟨vO, rfl, hrow⟩ := hy
    obtain ⟨yo, yp, rfl, hrow⟩ : ∃ a p, vO = .slice a y.outs.length p ∧ RowW W6 vO y.outs := by
      obtain ⟨ao, cp, e, h⟩ := hrow
      exact ⟨ao, cp, e, ⟨ao, cp, e, h⟩⟩
    have hl5 := HBA.out.size
    have hl6 := b6.size
    have B6 : Below w.heap.size w W6 := HBA.out.trans (b6.mono hl5)
    obtain ⟨oB, hoB⟩ : ∃ o : Obj, o = .cells #[.int .i64 y.fin, .int .i64 y.value, .int .i64 y.site, .slice yo y.outs.length yp] 42 := ⟨_, rfl⟩
    have nB : ∀ i, i < W6.heap.size → (W6.alloc oB).heap[i]? = W6.heap[i]? := fun i hi => Below.heap_alloc _ _ _ hi
    have kB : (W6.alloc oB).heap[W6.heap.size]? = some (.cells #[.int .i64 y.fin, .int .i64 y.value, .int .i64 y.site, .slice yo y.outs.length yp] 42 (0, 0)) := by
      rw [hoB]; exact heap_alloc_new W6 _
    have kA7 := ((nB W4.heap.size (by omega)).trans (b6.block _ hlA)).trans HKA.out
    have rB := hrow.next nB
    have rA7 := (RowW.next HRA.out (fun i hi => b6.block i hi)).next nB
    have BB : Below w.heap.size w (W6.alloc oB) := B6.alloc B6.size _
    have hlB : W6.heap.size < (W6.alloc oB).heap.size := by simp
    obtain ⟨c, hc⟩ : ∃ c : Bool, c = true ↔ x = y := by
      by_cases h : x = y
      · exact ⟨true, by simp [h]⟩
      · exact ⟨false, by simp [h]⟩
    have hsm := same_any x y _ _ (W6.alloc oB) ⟨_, rfl, rA7⟩ ⟨_, rfl, rB⟩ c hc
    have HRB : Hid _ := rB
    have HRA7 : Hid _ := rA7
    have HKA7 : Hid _ := kA7
    have HKB : Hid _ := kB
    have HBB : Hid _ := BB
    obtain ⟨u0, u1, u2, u3, _⟩ := cells_four kA7
    obtain ⟨v0, v1, v2, v3, _⟩ := cells_four kB
    clear hpost hrow rA7 rB kA7 kB nB BB B6 b6 hw2 HRA HKA
    go_upto_region 11 with fail
    rw [← hoB]
    clear hoB
    generalize W6.alloc oB = W7 at *
    go_wp2_with fail
    refine hsm.mono ?_
    rintro e W8 ⟨rfl, b8⟩
    have hl8 := b8.size
    have n8 : ∀ i, i < W7.heap.size → W8.heap[i]? = W7.heap[i]? := fun i hi => b8.block i hi
    obtain ⟨p0, p1, p2, p3, _⟩ := cells_four ((n8 W4.heap.size (by omega)).trans HKA7.out)
    obtain ⟨q0, q1, q2, q3, _⟩ := cells_four ((n8 W6.heap.size (by omega)).trans HKB.out)
    have rA8 := RowW.next HRA7.out n8
    have rB8 := RowW.next HRB.out n8
    have HB8 : Hid (Below w.heap.size w W8) := HBB.out.trans (b8.mono (by have := HBB.out.size; omega))
    clear hsm u0 u1 u2 u3 v0 v1 v2 v3 b8 n8
    by_cases h3 : y.fin = 3
    · have t3 : (y.fin != 3) = false := by simp [h3]
      have hpre : y.outs <+: x.outs := by
        rcases HLS.out with ⟨e, _⟩ | ⟨_, e⟩
        · rw [e]; exact List.prefix_refl _
        · exact e
      have hbg := begins_any y.outs x.outs _ _ W8 rB8 rA8 true (by simp [hpre])
      clear rA8 rB8 h3 hpre hc
      go_wp2_with fail
      refine hbg.mono ?_
      rintro e W9 ⟨rfl, hs9⟩
      have HB9 : Hid (Below w.heap.size w W9) := HB8.out.trans (Still.below hs9 _)
      clear hs9 hbg
      go_wp2
      go_ret
      exact ⟨rfl, HB9.out⟩
    · have t3 : (y.fin != 3) = true := by simp [h3]
      obtain ⟨e, f1, f5⟩ := HLS.out.resolve_right (fun h => h3 h.1)
      have hct : c = true := hc.2 e.symm
      have d1 : decide (1 ≤ y.fin) = true := by simp [f1]
      have d5 : decide (y.fin ≤ 5) = true := by simp [f5]
      clear rA8 rB8 h3 hc e HLS
      subst hct
      generalize y.fin = yf at *
      go_wp2
      go_ret
      exact ⟨rfl, HB8.out⟩
end Go.Proofs.YtikffmloeifkpaaGreatDoor
