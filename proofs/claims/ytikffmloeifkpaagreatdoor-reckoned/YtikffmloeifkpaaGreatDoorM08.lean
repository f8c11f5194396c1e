/- The program's contracts, part 8: each says what a function of the program does, for every argument that its premises name. -/
import Derived.Test.YtikffmloeifkpaaGreatDoorM07
/- Package grammar: a factor. -/
namespace Go.Proofs.YtikffmloeifkpaaGreatDoor
open Go.RowKit Go.Lib Go.Deep

theorem stands_of_kind {T : List Tok} {r : Rd} {ks : List Int} (h : (took T r ks).kind ≠ 0) : stands T r ks = true := by
  cases hs : stands T r ks
  · unfold took at h
    rw [hs] at h
    exact absurd rfl h
  · rfl
theorem opened_stands {T : List Tok} (he : Ends T) {r : Rd} (h : r.next < T.length) {ks : List Int} (h0 : oneOf ks 0 = false) (hs : stands T r ks = true) : r.next + 1 ≤ (r.opened T ks).next := by
  have h1 := stands_next hs
  have h2 := (deeper_next (adv_take he h h0).lt (took T r ks).pos).1
  show _ ≤ ((r.take T ks).deeper T.length (took T r ks).pos).next
  omega
theorem dm_opened {T : List Tok} (he : Ends T) {n q : Nat} {r : Rd} (h : r.next < T.length) {ks : List Int} (h0 : oneOf ks 0 = false) (hd : Dm T (n + 1) q r) (hs : stands T r ks = true) : Dm T n 2 (r.opened T ks) := by
  have h1 := opened_stands he h h0 hs
  obtain ⟨o1, o2, o3⟩ := opened_next he h h0
  obtain ⟨d1, d2, d3⟩ := hd
  exact ⟨by omega, by omega, by omega⟩

set_option maxRecDepth 100000 in
set_option maxHeartbeats 4000000 in
theorem factor_any (T : List Tok) (g cap b n : Nat) (E F : Pr) (r : Rd) (w : World) (hE : Gives T g cap b 335 E (Dm T n 2)) (hGE : Goes T E) (hOE : So 0 7 E)
    (hF : Gives T g cap b 362 F (Dm T n 0)) (hGF : Goes T F) (hOF : So 0 7 F) (h : RdW T g cap b r w) (hd : Dm T (n + 1) 0 r) :
    Calls Tryz.prog 362 #[.pointer (some ⟨b, 0, none⟩)] w (Post T g cap b w (factorP T E F n r) valT) := by
  have HE : Hid (Gives T g cap b 335 E (Dm T n 2)) := hE
  have HGE : Hid (Goes T E) := hGE
  have HOE : Hid (So 0 7 E) := hOE
  have HF : Hid (Gives T g cap b 362 F (Dm T n 0)) := hF
  have HGF : Hid (Goes T F) := hGF
  have HOF : Hid (So 0 7 F) := hOF
  clear hE hGE hOE hF hGF hOF
  have h1 := h.alloc (.cells #[.int .i64 2, .int .i64 1, .int .i64 12, .int .i64 28] 141)
  have e1 := (Ex.refl b w).alloc (.cells #[.int .i64 2, .int .i64 1, .int .i64 12, .int .i64 28] 141)
  have k1 := kinds_new w facOps #[.int .i64 2, .int .i64 1, .int .i64 12, .int .i64 28] rfl
  go_enter Tryz.func362, Tryz.ntmps362
  go_wp2_with fail
  refine (take_any T g cap b r w.heap.size 4 facOps _ h1 k1 (by decide) (by decide)).mono ?_
  rintro e W2 ⟨rfl, h2, e2⟩
  have a2 := adv_take h.ends h.lt (show oneOf facOps 0 = false by decide)
  have HS : Hid ((took T r facOps).kind ≠ 0 → (r.take T facOps).next = r.next + 1) := fun hk => stands_next (stands_of_kind hk)
  generalize hq : took T r facOps = q at *
  have HQ : Hid (took T r facOps = q) := hq
  clear hq
  rw [Tok.val_eq]
  have h3 := h2.alloc (.cells #[.int .i64 q.kind, .int .i64 q.pos, .string q.text, .int .i64 q.value] 143)
  have e3 := (e1.trans e2).alloc (.cells #[.int .i64 q.kind, .int .i64 q.pos, .string q.text, .int .i64 q.value] 143)
  have n3 : (W2.alloc (.cells #[.int .i64 q.kind, .int .i64 q.pos, .string q.text, .int .i64 q.value] 143)).heap[W2.heap.size]? = some (.cells #[.int .i64 q.kind, .int .i64 q.pos, .string q.text, .int .i64 q.value] 143 (0, 0)) := heap_alloc_new W2 _
  have hne : W2.heap.size ≠ b := by have := h2.size; omega
  have hn2 : 0 ≤ (r.take T facOps).nest ∧ (r.take T facOps).nest ≤ 1000000 := by rw [a2.nest]; exact hd.nest
  have hlt := h.lt
  obtain ⟨d1, d2, d3⟩ := deeper_next a2.lt q.pos
  by_cases k2 : q.kind = 2
  · have hf : Hid (factorP T E F n r = (r.take T facOps, number q.value)) := by unfold Hid factorP; dsimp only; rw [HQ.out, if_pos k2]
    have k2' : (q.kind == 2) = true := by simpa using k2
    clear k2
    go_wp2
    go_ret
    refine ⟨.node (W2.heap.size + 1) 0 { tag := 0, val := q.value } .nil .nil, rfl, by rw [hf.out]; rfl, New.node (New.nil _ _) (New.nil _ _) (fun _ => by have := (e1.trans e2).size; omega) (by simp) ?_, by rw [hf.out]; exact h3.alloc _, e3.alloc _⟩
    exact ⟨_, by have := heap_alloc_new (W2.alloc (.cells #[.int .i64 q.kind, .int .i64 q.pos, .string q.text, .int .i64 q.value] 143)) (.cells #[.int .i64 q.value] 364); simpa using this, rfl⟩
  have k2' : (q.kind == 2) = false := by simpa using k2
  by_cases k12 : q.kind = 12
  · have hf : Hid (factorP T E F n r = ((E ((r.take T facOps).deeper T.length q.pos)).1.shut T 13, mk { tag := 4 } (E ((r.take T facOps).deeper T.length q.pos)).2 .nil)) := by
      unfold Hid factorP; dsimp only; rw [HQ.out, if_neg k2, if_pos k12]
    have hnx := HS.out (by omega)
    have hdE : Dm T n 2 ((r.take T facOps).deeper T.length q.pos) := by
      obtain ⟨x1, x2, x3⟩ := hd
      have := a2.nest
      exact ⟨by omega, by omega, by omega⟩
    have k12' : (q.kind == 12) = true := by simpa using k12
    clear k2 k12
    obtain ⟨m0, m1, m2, m3, _⟩ := four_cells n3
    go_wp2_with fail
    generalize W2.alloc (.cells #[.int .i64 q.kind, .int .i64 q.pos, .string q.text, .int .i64 q.value] 143) = W3 at *
    refine (deepen_any T g cap b _ q W3 h3 hn2).mono ?_
    rintro e W4 ⟨rfl, h4, e4⟩
    go_wp2_with fail
    refine (HE.out _ _ h4 hdE).mono ?_
    rintro e W5 ⟨t5, rfl, ht5, it5, h5, e5⟩
    have HT5 : Hid (er t5 = (E ((r.take T facOps).deeper T.length q.pos)).2) := ht5
    obtain ⟨ya, yx, yy, hye, _, hyt⟩ := HOE.out ((r.take T facOps).deeper T.length q.pos)
    obtain ⟨u5, p5, hv5⟩ := val_iface (HT5.out.trans hye) (by omega)
    have HV5 : Hid (valT t5 = .iface u5 (.pointer (some p5))) := hv5
    rw [hv5]
    clear hv5 hye ht5
    have a5 := HGE.out _ d2
    have hn5 : 0 ≤ (E ((r.take T facOps).deeper T.length q.pos)).1.nest ∧ (E ((r.take T facOps).deeper T.length q.pos)).1.nest ≤ 1000000 := by rw [a5.nest]; exact hdE.nest
    go_wp2_with fail
    refine (shut_any T g cap b _ 13 W5 h5 (by decide) hn5).mono ?_
    rintro e W6 ⟨rfl, h6, e6⟩
    go_wp2
    go_ret
    have ee := ((e3.trans e4).trans e5).trans e6
    refine ⟨.node W6.heap.size 0 { tag := 4 } t5 .nil, rfl, ?_, New.node (((it5.mono (e3.trans e4).size).ex h5 e6).ex h6 ((Ex.refl b W6).alloc _)) (New.nil _ _) (fun _ => ee.size) (by simp) ?_, by rw [hf.out]; exact h6.alloc _, ee.alloc _⟩
    · rw [hf.out, ← HT5.out]; rfl
    · exact ⟨_, heap_alloc_new W6 _, by rw [HV5.out]; rfl⟩
  have k12' : (q.kind == 12) = false := by simpa using k12
  by_cases k28 : q.kind = 28
  · have hf : Hid (factorP T E F n r = (⟨(F ((r.take T facOps).deeper T.length q.pos)).1.next, (F ((r.take T facOps).deeper T.length q.pos)).1.nest - 1, (F ((r.take T facOps).deeper T.length q.pos)).1.code, (F ((r.take T facOps).deeper T.length q.pos)).1.pos⟩, mk { tag := 5 } (F ((r.take T facOps).deeper T.length q.pos)).2 .nil)) := by
      unfold Hid factorP; dsimp only; rw [HQ.out, if_neg k2, if_neg k12, if_pos k28]
    have hnx := HS.out (by omega)
    have hdF : Dm T n 0 ((r.take T facOps).deeper T.length q.pos) := by
      obtain ⟨x1, x2, x3⟩ := hd
      have := a2.nest
      exact ⟨by omega, by omega, by omega⟩
    have k28' : (q.kind == 28) = true := by simpa using k28
    clear k2 k12 k28
    obtain ⟨m0, m1, m2, m3, _⟩ := four_cells n3
    go_wp2_with fail
    generalize W2.alloc (.cells #[.int .i64 q.kind, .int .i64 q.pos, .string q.text, .int .i64 q.value] 143) = W3 at *
    refine (deepen_any T g cap b _ q W3 h3 hn2).mono ?_
    rintro e W4 ⟨rfl, h4, e4⟩
    go_wp2_with fail
    refine (HF.out _ _ h4 hdF).mono ?_
    rintro e W5 ⟨t5, rfl, ht5, it5, h5, e5⟩
    have HT5 : Hid (er t5 = (F ((r.take T facOps).deeper T.length q.pos)).2) := ht5
    obtain ⟨ya, yx, yy, hye, _, hyt⟩ := HOF.out ((r.take T facOps).deeper T.length q.pos)
    obtain ⟨u5, p5, hv5⟩ := val_iface (HT5.out.trans hye) (by omega)
    have HV5 : Hid (valT t5 = .iface u5 (.pointer (some p5))) := hv5
    rw [hv5]
    clear hv5 hye ht5
    have a5 := HGF.out _ d2
    have hn5 : 0 ≤ (F ((r.take T facOps).deeper T.length q.pos)).1.nest ∧ (F ((r.take T facOps).deeper T.length q.pos)).1.nest ≤ 1000000 := by rw [a5.nest]; exact hdF.nest
    obtain ⟨n5, n6⟩ := hn5
    have c2 := h5.c2
    have f2 := h5.froz 2
    have h6 := h5.setNest ((F ((r.take T facOps).deeper T.length q.pos)).1.nest - 1)
    have e6 := (Ex.refl b W5).set 2 (.int .i64 ((F ((r.take T facOps).deeper T.length q.pos)).1.nest - 1))
    have s6 : (W5.setCell ⟨b, 2, none⟩ (.int .i64 ((F ((r.take T facOps).deeper T.length q.pos)).1.nest - 1))).heap.size = W5.heap.size := by simp [World.setCell]
    go_wp2
    go_ret
    have ee := ((e3.trans e4).trans e5).trans e6
    refine ⟨.node W5.heap.size 0 { tag := 5 } t5 .nil, rfl, ?_, New.node (((it5.mono (e3.trans e4).size).ex h5 e6).ex h6 ((Ex.refl b _).alloc _)) (New.nil _ _) (fun _ => ((e3.trans e4).trans e5).size) (by simp) ?_, by rw [hf.out]; exact h6.alloc _, ee.alloc _⟩
    · rw [hf.out, ← HT5.out]; rfl
    · exact ⟨_, by rw [← s6]; exact heap_alloc_new _ _, by rw [HV5.out]; rfl⟩
  · have hf : Hid (factorP T E F n r = namedP T E n q (r.take T facOps)) := by
      unfold Hid factorP; dsimp only; rw [HQ.out, if_neg k2, if_neg k12, if_neg k28]
    have k28' : (q.kind == 28) = false := by simpa using k28
    have hg1 : stands T (r.take T facOps) [16] = true → Dm T n 2 ((r.take T facOps).opened T [16]) := fun hs => dm_opened h.ends a2.lt (by decide) (hd.adv a2) hs
    have hg2 : stands T (r.take T facOps) [12] = true → Dm T n 2 ((r.take T facOps).opened T [12]) := fun hs => dm_opened h.ends a2.lt (by decide) (hd.adv a2) hs
    have HG1 : Hid _ := hg1
    have HG2 : Hid _ := hg2
    clear k2 k12 k28 hg1 hg2
    obtain ⟨m0, m1, m2, m3, _⟩ := four_cells n3
    go_wp2_with fail
    generalize W2.alloc (.cells #[.int .i64 q.kind, .int .i64 q.pos, .string q.text, .int .i64 q.value] 143) = W3 at *
    refine (nameOf_any q W3).mono ?_
    rintro e W4 ⟨rfl, b4⟩
    have h4 := h3.below b4
    have e4 := e3.trans (Ex.of_below (b := b) b4)
    go_wp2_with fail
    refine (named_any T g cap b n E q _ W4 HE.out HGE.out HOE.out h4 hn2 HG1.out HG2.out).mono ?_
    rintro e W5 ⟨t5, rfl, ht5, it5, h5, e5⟩
    have HT5 : Hid (er t5 = (namedP T E n q (r.take T facOps)).2) := ht5
    clear ht5
    go_wp2
    go_ret
    exact ⟨t5, rfl, by rw [hf.out]; exact HT5.out, it5.mono e4.size, by rw [hf.out]; exact h5, e4.trans e5⟩
end Go.Proofs.YtikffmloeifkpaaGreatDoor

/- Package grammar: terms, expressions, conditions; atoms. -/
namespace Go.Proofs.YtikffmloeifkpaaGreatDoor
open Go.RowKit Go.Lib Go.Deep

theorem enters_factor : ∀ args wx, (callFunc 362 args).run Tryz.prog wx = .ok (.enter 362 args) wx := by intro args wx; go_simp
theorem enters_term : ∀ args wx, (callFunc 353 args).run Tryz.prog wx = .ok (.enter 353 args) wx := by intro args wx; go_simp
theorem enters_conj : ∀ args wx, (callFunc 334 args).run Tryz.prog wx = .ok (.enter 334 args) wx := by intro args wx; go_simp
theorem enters_comp : ∀ args wx, (callFunc 351 args).run Tryz.prog wx = .ok (.enter 351 args) wx := by intro args wx; go_simp
theorem enters_atom : ∀ args wx, (callFunc 245 args).run Tryz.prog wx = .ok (.enter 245 args) wx := by intro args wx; go_simp
theorem enters_rel : ∀ args wx, (callFunc 191 args).run Tryz.prog wx = .ok (.enter 191 args) wx := by intro args wx; go_simp
theorem enters_name : ∀ args wx, (callFunc 185 args).run Tryz.prog wx = .ok (.enter 185 args) wx := by intro args wx; go_simp

theorem took_vals {T : List Tok} {g cap b : Nat} {r : Rd} {w : World} (h : RdW T g cap b r w) (ks : List Int) : 0 ≤ (took T r ks).value ∧ (took T r ks).value ≤ 999999999 := by
  unfold took
  split
  · have h1 := tokAt_some h.lt
    exact h.vals _ (List.mem_of_getElem? h1)
  · exact ⟨by show (0 : Int) ≤ 0; omega, by show (0 : Int) ≤ 999999999; omega⟩
theorem field_value (t : Tok) (w : World) : (Instr.field 143 (.agg #[.int .i64 t.kind, .int .i64 t.pos, .string t.text, .int .i64 t.value]) 3).run Tryz.prog w = .ok (.int .i64 t.value) w := by kernel_rfl

theorem Post.from {T : List Tok} {g cap b : Nat} {w w1 : World} {q : Rd × Tr} {val : Tr → Value} {e : Ending} {w' : World} (h : Post T g cap b w1 q val e w') (he : Ex b w w1) : Post T g cap b w q val e w' := by
  obtain ⟨t, h1, h2, h3, h4, h5⟩ := h
  exact ⟨t, h1, h2, h3.mono he.size, h4, he.trans h5⟩

set_option maxHeartbeats 2000000 in
theorem term_any (T : List Tok) (g cap b n : Nat) (S : Pr) (r : Rd) (w : World) (hS : Gives T g cap b 362 S (Dm T n 0)) (hG : Goes T S) (hO : So 0 7 S) (h : RdW T g cap b r w) (hd : Dm T n 0 r) :
    Calls Tryz.prog 353 #[.pointer (some ⟨b, 0, none⟩)] w (Post T g cap b w (chainP T S [29, 30, 31] n r) valT) := by
  have HS : Hid (Gives T g cap b 362 S (Dm T n 0)) := hS
  have HG : Hid (Goes T S) := hG
  have HO : Hid (So 0 7 S) := hO
  clear hS hG hO
  have hmf : ∀ (fn : Fn) (first cap : Array Value) (w : World), (Instr.makeFunc fn first cap).run Tryz.prog w = .ok (.func fn first cap) w := fun _ _ _ _ => rfl
  have h1 := h.alloc (.cells #[.int .i64 29, .int .i64 30, .int .i64 31] 141)
  have e1 := (Ex.refl b w).alloc (.cells #[.int .i64 29, .int .i64 30, .int .i64 31] 141)
  have k1 := kinds_new w [29, 30, 31] #[.int .i64 29, .int .i64 30, .int .i64 31] rfl
  have hb := h.size
  go_enter Tryz.func353, Tryz.ntmps353
  go_wp2_with fail
  refine (chain_any T g cap b 362 n 0 w.heap.size S [29, 30, 31] _ r _ enters_factor HS.out HG.out HO.out h1 hd k1 (by omega) (by decide) (by decide)).mono ?_
  rintro e W2 ⟨t, rfl, ht, it, h2, e2⟩
  have HT : Hid (er t = (chainP T S [29, 30, 31] n r).2) := ht
  clear ht
  go_wp2
  go_ret
  exact Post.from ⟨t, rfl, HT.out, it, h2, e2⟩ e1

set_option maxHeartbeats 2000000 in
theorem expr_any (T : List Tok) (g cap b n : Nat) (S : Pr) (r : Rd) (w : World) (hS : Gives T g cap b 353 S (Dm T n 1)) (hG : Goes T S) (hO : So 0 7 S) (h : RdW T g cap b r w) (hd : Dm T n 1 r) :
    Calls Tryz.prog 335 #[.pointer (some ⟨b, 0, none⟩)] w (Post T g cap b w (chainP T S [27, 28] n r) valT) := by
  have HS : Hid (Gives T g cap b 353 S (Dm T n 1)) := hS
  have HG : Hid (Goes T S) := hG
  have HO : Hid (So 0 7 S) := hO
  clear hS hG hO
  have hmf : ∀ (fn : Fn) (first cap : Array Value) (w : World), (Instr.makeFunc fn first cap).run Tryz.prog w = .ok (.func fn first cap) w := fun _ _ _ _ => rfl
  have h1 := h.alloc (.cells #[.int .i64 27, .int .i64 28] 141)
  have e1 := (Ex.refl b w).alloc (.cells #[.int .i64 27, .int .i64 28] 141)
  have k1 := kinds_new w [27, 28] #[.int .i64 27, .int .i64 28] rfl
  have hb := h.size
  go_enter Tryz.func335, Tryz.ntmps335
  go_wp2_with fail
  refine (chain_any T g cap b 353 n 1 w.heap.size S [27, 28] _ r _ enters_term HS.out HG.out HO.out h1 hd k1 (by omega) (by decide) (by decide)).mono ?_
  rintro e W2 ⟨t, rfl, ht, it, h2, e2⟩
  have HT : Hid (er t = (chainP T S [27, 28] n r).2) := ht
  clear ht
  go_wp2
  go_ret
  exact Post.from ⟨t, rfl, HT.out, it, h2, e2⟩ e1

set_option maxHeartbeats 2000000 in
theorem conj_any (T : List Tok) (g cap b n : Nat) (S : Pr) (r : Rd) (w : World) (hS : Gives T g cap b 351 S (Dm T n 3)) (hG : Goes T S) (hO : So 7 9 S) (h : RdW T g cap b r w) (hd : Dm T n 3 r) :
    Calls Tryz.prog 334 #[.pointer (some ⟨b, 0, none⟩)] w (Post T g cap b w (logicP T S 32 n r) valT) := by
  have HS : Hid (Gives T g cap b 351 S (Dm T n 3)) := hS
  have HG : Hid (Goes T S) := hG
  have HO : Hid (So 7 9 S) := hO
  clear hS hG hO
  have hmf : ∀ (fn : Fn) (first cap : Array Value) (w : World), (Instr.makeFunc fn first cap).run Tryz.prog w = .ok (.func fn first cap) w := fun _ _ _ _ => rfl
  go_enter Tryz.func334, Tryz.ntmps334
  go_wp2_with fail
  refine (logic_any T g cap b 351 n 3 S 32 r _ enters_comp HS.out HG.out HO.out h hd (by decide)).mono ?_
  rintro e W2 ⟨t, rfl, ht, it, h2, e2⟩
  have HT : Hid (er t = (logicP T S 32 n r).2) := ht
  clear ht
  go_wp2
  go_ret
  exact ⟨t, rfl, HT.out, it, h2, e2⟩

set_option maxHeartbeats 2000000 in
theorem cond_any (T : List Tok) (g cap b n : Nat) (S : Pr) (r : Rd) (w : World) (hS : Gives T g cap b 334 S (Dm T n 4)) (hG : Goes T S) (hO : So 7 9 S) (h : RdW T g cap b r w) (hd : Dm T n 4 r) :
    Calls Tryz.prog 299 #[.pointer (some ⟨b, 0, none⟩)] w (Post T g cap b w (logicP T S 33 n r) valT) := by
  have HS : Hid (Gives T g cap b 334 S (Dm T n 4)) := hS
  have HG : Hid (Goes T S) := hG
  have HO : Hid (So 7 9 S) := hO
  clear hS hG hO
  have hmf : ∀ (fn : Fn) (first cap : Array Value) (w : World), (Instr.makeFunc fn first cap).run Tryz.prog w = .ok (.func fn first cap) w := fun _ _ _ _ => rfl
  go_enter Tryz.func299, Tryz.ntmps299
  go_wp2_with fail
  refine (logic_any T g cap b 334 n 4 S 33 r _ enters_conj HS.out HG.out HO.out h hd (by decide)).mono ?_
  rintro e W2 ⟨t, rfl, ht, it, h2, e2⟩
  have HT : Hid (er t = (logicP T S 33 n r).2) := ht
  clear ht
  go_wp2
  go_ret
  exact ⟨t, rfl, HT.out, it, h2, e2⟩

theorem val_comp {t : Tr} {a : Nd} {x y : Tr} (h : er t = mk a x y) (ha : a.tag = 7) : ∃ p, ptrT t = .pointer (some p) ∧ valT t = .iface 253 (.pointer (some p)) := by
  obtain ⟨b, o, l, r, rfl, _, _⟩ := node_of h
  exact ⟨⟨b, 0, none⟩, rfl, by show (if a.tag = 20 then _ else _) = _; rw [if_neg (by omega), ha]; rfl⟩

set_option maxHeartbeats 2000000 in
theorem comp_any (T : List Tok) (g cap b n : Nat) (S : Pr) (r : Rd) (w : World) (hS : Gives T g cap b 335 S (Dm T n 2)) (hG : Goes T S) (hO : So 0 7 S) (h : RdW T g cap b r w) (hd : Dm T n 2 r) :
    Calls Tryz.prog 351 #[.pointer (some ⟨b, 0, none⟩)] w (Post T g cap b w (compareP T S r) valT) := by
  have HS : Hid (Gives T g cap b 335 S (Dm T n 2)) := hS
  have HG : Hid (Goes T S) := hG
  have HO : Hid (So 0 7 S) := hO
  clear hS hG hO
  have hmf : ∀ (fn : Fn) (first cap : Array Value) (w : World), (Instr.makeFunc fn first cap).run Tryz.prog w = .ok (.func fn first cap) w := fun _ _ _ _ => rfl
  go_enter Tryz.func351, Tryz.ntmps351
  go_wp2_with fail
  refine (compareOf_any T g cap b 335 n 2 S r _ enters_expr HS.out HG.out HO.out h hd).mono ?_
  rintro e W2 ⟨t, rfl, ht, it, h2, e2⟩
  obtain ⟨p, hp, hv⟩ := val_comp ht rfl
  have HT : Hid (er t = (compareP T S r).2) := ht
  have HV : Hid (valT t = .iface 253 (.pointer (some p))) := hv
  rw [hp]
  clear ht hp hv
  go_wp2
  go_ret
  exact ⟨t, by rw [HV.out]; rfl, HT.out, it, h2, e2⟩

set_option maxHeartbeats 2000000 in
theorem rel_any (T : List Tok) (g cap b n : Nat) (r : Rd) (w : World) (hS : Gives T g cap b 245 (atomP T) (Dm T n 0)) (h : RdW T g cap b r w) (hd : Dm T n 0 r) :
    Calls Tryz.prog 191 #[.pointer (some ⟨b, 0, none⟩)] w (Post T g cap b w (relP T r) ptrT) := by
  have HS : Hid (Gives T g cap b 245 (atomP T) (Dm T n 0)) := hS
  clear hS
  have hmf : ∀ (fn : Fn) (first cap : Array Value) (w : World), (Instr.makeFunc fn first cap).run Tryz.prog w = .ok (.func fn first cap) w := fun _ _ _ _ => rfl
  go_enter Tryz.func191, Tryz.ntmps191
  go_wp2_with fail
  refine (compareOf_any T g cap b 245 n 0 (atomP T) r _ enters_atom HS.out (goes_atom h.ends) so_atom h hd).mono ?_
  rintro e W2 ⟨t, rfl, ht, it, h2, e2⟩
  obtain ⟨p, hp, hv⟩ := val_comp ht rfl
  have HT : Hid (er t = (compareP T (atomP T) r).2) := ht
  have HP : Hid (ptrT t = .pointer (some p)) := hp
  rw [hp]
  clear ht hp hv
  go_wp2
  go_ret
  exact ⟨t, by rw [HP.out]; rfl, HT.out, it, h2, e2⟩

set_option maxRecDepth 100000 in
set_option maxHeartbeats 4000000 in
theorem atom_any (T : List Tok) (g cap b n : Nat) : Gives T g cap b 245 (atomP T) (Dm T n 0) := by
  intro r w h hd
  have h1 := h.alloc (.cells #[.int .i64 28, .int .i64 2, .int .i64 1] 141)
  have e1 := (Ex.refl b w).alloc (.cells #[.int .i64 28, .int .i64 2, .int .i64 1] 141)
  have k1 := kinds_new w [28, 2, 1] #[.int .i64 28, .int .i64 2, .int .i64 1] rfl
  go_enter Tryz.func245, Tryz.ntmps245
  go_wp2_with fail
  refine (take_any T g cap b r w.heap.size 3 [28, 2, 1] _ h1 k1 (by decide) (by decide)).mono ?_
  rintro e W2 ⟨rfl, h2, e2⟩
  generalize hq : took T r [28, 2, 1] = q at *
  have HQ : Hid (took T r [28, 2, 1] = q) := hq
  clear hq
  rw [Tok.val_eq]
  have h3 := h2.alloc (.cells #[.int .i64 q.kind, .int .i64 q.pos, .string q.text, .int .i64 q.value] 143)
  have e3 := (e1.trans e2).alloc (.cells #[.int .i64 q.kind, .int .i64 q.pos, .string q.text, .int .i64 q.value] 143)
  have n3 : (W2.alloc (.cells #[.int .i64 q.kind, .int .i64 q.pos, .string q.text, .int .i64 q.value] 143)).heap[W2.heap.size]? = some (.cells #[.int .i64 q.kind, .int .i64 q.pos, .string q.text, .int .i64 q.value] 143 (0, 0)) := heap_alloc_new W2 _
  have s3 : (W2.alloc (.cells #[.int .i64 q.kind, .int .i64 q.pos, .string q.text, .int .i64 q.value] 143)).heap.size = W2.heap.size + 1 := by simp
  obtain ⟨m0, m1, m2, m3, _⟩ := four_cells n3
  by_cases k28 : q.kind = 28
  · have k28' : (q.kind == 28) = true := by simpa using k28
    have k4 := kinds_new (W2.alloc (.cells #[.int .i64 q.kind, .int .i64 q.pos, .string q.text, .int .i64 q.value] 143)) [2] #[.int .i64 2] rfl
    rw [s3] at k4
    have h4 := h3.alloc (.cells #[.int .i64 2] 141)
    have e4 := e3.alloc (.cells #[.int .i64 2] 141)
    have hf : Hid (atomP T r = ((r.take T [28, 2, 1]).take T [2], number (-(took T (r.take T [28, 2, 1]) [2]).value))) := by unfold Hid atomP; dsimp only; rw [HQ.out, if_pos k28]
    clear k28
    go_wp2_with fail
    refine (take_any T g cap b _ (W2.heap.size + 1) 1 [2] _ h4 k4 (by decide) (by decide)).mono ?_
    rintro e W5 ⟨rfl, h5, e5⟩
    have hv2 := took_vals h2 [2]
    generalize hq2 : took T (r.take T [28, 2, 1]) [2] = q2 at *
    have HQ2 : Hid (took T (r.take T [28, 2, 1]) [2] = q2) := hq2
    clear hq2
    obtain ⟨v2, v3⟩ := hv2
    rw [Tok.val_eq]
    have hfl := field_value q2
    go_wp2
    go_ret
    refine ⟨.node W5.heap.size 0 { tag := 0, val := -q2.value } .nil .nil, rfl, by rw [hf.out]; rfl, New.node (New.nil _ _) (New.nil _ _) (fun _ => (e4.trans e5).size) (by simp) ?_, by rw [hf.out]; exact h5.alloc _, (e4.trans e5).alloc _⟩
    exact ⟨_, heap_alloc_new W5 _, rfl⟩
  have k28' : (q.kind == 28) = false := by simpa using k28
  by_cases k2 : q.kind = 2
  · have k2' : (q.kind == 2) = true := by simpa using k2
    have hf : Hid (atomP T r = (r.take T [28, 2, 1], number q.value)) := by unfold Hid atomP; dsimp only; rw [HQ.out, if_neg k28, if_pos k2]
    clear k2 k28
    go_wp2
    go_ret
    refine ⟨.node (W2.heap.size + 1) 0 { tag := 0, val := q.value } .nil .nil, rfl, by rw [hf.out]; rfl, New.node (New.nil _ _) (New.nil _ _) (fun _ => by have := (e1.trans e2).size; omega) (by simp) ?_, by rw [hf.out]; exact h3.alloc _, e3.alloc _⟩
    exact ⟨_, by have := heap_alloc_new (W2.alloc (.cells #[.int .i64 q.kind, .int .i64 q.pos, .string q.text, .int .i64 q.value] 143)) (.cells #[.int .i64 q.value] 364); simpa using this, rfl⟩
  · have k2' : (q.kind == 2) = false := by simpa using k2
    have hf : Hid (atomP T r = (r.take T [28, 2, 1], variable_ q)) := by unfold Hid atomP; dsimp only; rw [HQ.out, if_neg k28, if_neg k2]
    clear k2 k28
    go_wp2_with fail
    generalize W2.alloc (.cells #[.int .i64 q.kind, .int .i64 q.pos, .string q.text, .int .i64 q.value] 143) = W3 at *
    refine (nameOf_any q W3).mono ?_
    rintro e W4 ⟨rfl, b4⟩
    have h4 := h3.below b4
    have e4 := e3.trans (Ex.of_below (b := b) b4)
    unfold nameVal
    go_wp2
    go_ret
    refine ⟨.node W4.heap.size 0 { tag := 1, name := q.text, npos := q.pos } .nil .nil, rfl, by rw [hf.out]; rfl, New.node (New.nil _ _) (New.nil _ _) (fun _ => e4.size) (by simp) ?_, by rw [hf.out]; exact h4.alloc _, e4.alloc _⟩
    exact ⟨_, heap_alloc_new W4 _, rfl, rfl, rfl⟩
end Go.Proofs.YtikffmloeifkpaaGreatDoor

/- Package grammar: statements' parts. -/
namespace Go.Proofs.YtikffmloeifkpaaGreatDoor
open Go.RowKit Go.Lib Go.Deep

set_option maxRecDepth 100000 in
set_option maxHeartbeats 4000000 in
theorem set_any (T : List Tok) (g cap b n : Nat) (E : Pr) (tk : Tok) (q : Bool) (r : Rd) (w : World) (hE : Gives T g cap b 335 E (Dm T n 2)) (hO : So 0 7 E) (h : RdW T g cap b r w) (hd : Dm T n 2 (r.take T [20])) :
    Calls Tryz.prog 297 #[.pointer (some ⟨b, 0, none⟩), nameVal tk.text tk.pos, .bool q] w (Post T g cap b w (setP T E tk q r) ptrT) := by
  have HE : Hid (Gives T g cap b 335 E (Dm T n 2)) := hE
  have HO : Hid (So 0 7 E) := hO
  clear hE hO
  unfold nameVal
  have hsz : (w.alloc (.cells #[.string tk.text, .int .i64 tk.pos, .int .i64 0] 100)).heap.size = w.heap.size + 1 := by simp
  have h2 := (h.alloc (.cells #[.string tk.text, .int .i64 tk.pos, .int .i64 0] 100)).alloc (.cells #[.int .i64 20] 141)
  have e2 := ((Ex.refl b w).alloc (.cells #[.string tk.text, .int .i64 tk.pos, .int .i64 0] 100)).alloc (.cells #[.int .i64 20] 141)
  have k2 := kinds_new (w.alloc (.cells #[.string tk.text, .int .i64 tk.pos, .int .i64 0] 100)) [20] #[.int .i64 20] rfl
  rw [hsz] at k2
  have n2 : ((w.alloc (.cells #[.string tk.text, .int .i64 tk.pos, .int .i64 0] 100)).alloc (.cells #[.int .i64 20] 141)).heap[w.heap.size]? = some (.cells #[.string tk.text, .int .i64 tk.pos, .int .i64 0] 100 (0, 0)) :=
    (Below.heap_alloc _ _ _ (by rw [hsz]; omega)).trans (heap_alloc_new w _)
  have hne : w.heap.size ≠ b := by have := h.size; omega
  go_enter Tryz.func297, Tryz.ntmps297
  go_wp2_with fail
  refine (take_any T g cap b r (w.heap.size + 1) 1 [20] _ h2 k2 (by decide) (by decide)).mono ?_
  rintro e W3 ⟨rfl, h3, e3⟩
  have n3 := (e3.block w.heap.size (Array.getElem?_eq_some_iff.1 n2).1 hne).trans n2
  have ee := e2.trans e3
  clear h2 e2 k2 n2 hsz
  obtain ⟨m0, m1, m2⟩ := name_block n3
  have m0' : W3.drew.cell? ⟨w.heap.size, 0, none⟩ = some (.string tk.text) := m0
  have hf : Hid (setP T E tk q r = ((valueP T E (r.take T [20])).1, mk { tag := 9, name := tk.text, npos := tk.pos, flag := q } (valueP T E (r.take T [20])).2 .nil)) := rfl
  go_wp2_with fail
  go_region_held3 (fun w' => w'.cell? ⟨w.heap.size, 0, none⟩ = some (.string tk.text) ∧ w'.cell? ⟨w.heap.size, 1, none⟩ = some (.int .i64 tk.pos) ∧ w'.cell? ⟨w.heap.size, 2, none⟩ = some (.int .i64 0))
    (first
      | (refine ⟨?_, ?_, ?_⟩ <;> assumption)
      | go_keep)
    ((refine step_call rfl 300 #[.pointer (some ⟨b, 0, none⟩)] _ (by go_simp) (value_any T g cap b n E _ _ HE.out h3.drew hd) ?_; rintro e W7 ⟨t7, rfl, ht7, it7, h7, e7⟩; refine ⟨_, rfl, ?_⟩; have HT7 : Hid (er t7 = (valueP T E (r.take T [20])).2) := ht7; clear ht7; have n7 := (e7.block w.heap.size (Array.getElem?_eq_some_iff.1 n3).1 hne).trans n3; have p0 := (name_block n7).1; have p1 := (name_block n7).2.1; have p2 := (name_block n7).2.2; obtain ⟨ya, yx, yy, hye, _, hyt⟩ := HO.out (r.take T [20]); obtain ⟨u7, p7, hv7⟩ := val_iface (HT7.out.trans hye) (by omega); have HV7 : Hid (valT t7 = .iface u7 (.pointer (some p7))) := hv7; rw [hv7]; clear hv7 hye))
  go_wp2
  go_ret
  refine ⟨.node W7.heap.size 0 { tag := 9, name := tk.text, npos := tk.pos, flag := q } t7 .nil, rfl, ?_, New.node ((it7.mono ee.size).ex h7 ((Ex.refl b W7).alloc _)) (New.nil _ _) (fun _ => (ee.drew.trans e7).size) (by simp) ?_, by rw [hf.out]; exact h7.alloc _, (ee.drew.trans e7).alloc _⟩
  · rw [hf.out, ← HT7.out]; rfl
  · exact ⟨_, heap_alloc_new W7 _, ⟨rfl, rfl, rfl⟩, by rw [HV7.out]; rfl, rfl⟩

set_option maxRecDepth 100000 in
set_option maxHeartbeats 4000000 in
theorem store_any (T : List Tok) (g cap b n : Nat) (E : Pr) (tk : Tok) (r : Rd) (w : World) (hE : Gives T g cap b 335 E (Dm T n 2)) (hG : Goes T E) (hO : So 0 7 E) (h : RdW T g cap b r w) (hn : 0 ≤ r.nest ∧ r.nest ≤ 1000000)
    (hd : Dm T n 2 (r.opened T [16])) (hd2 : Dm T n 2 ((indexP T E r).1.take T [20])) :
    Calls Tryz.prog 301 #[.pointer (some ⟨b, 0, none⟩), nameVal tk.text tk.pos] w (Post T g cap b w (storeP T E tk r) ptrT) := by
  have HE : Hid (Gives T g cap b 335 E (Dm T n 2)) := hE
  have HG : Hid (Goes T E) := hG
  have HO : Hid (So 0 7 E) := hO
  clear hE hO hG
  unfold nameVal
  have h2 := (h.alloc (.cells #[.string tk.text, .int .i64 tk.pos, .int .i64 0] 100))
  have e2 := ((Ex.refl b w).alloc (.cells #[.string tk.text, .int .i64 tk.pos, .int .i64 0] 100))
  have n2 : (w.alloc (.cells #[.string tk.text, .int .i64 tk.pos, .int .i64 0] 100)).heap[w.heap.size]? = some (.cells #[.string tk.text, .int .i64 tk.pos, .int .i64 0] 100 (0, 0)) := heap_alloc_new w _
  have hne : w.heap.size ≠ b := by have := h.size; omega
  go_enter Tryz.func301, Tryz.ntmps301
  go_wp2_with fail
  refine (index_any T g cap b n E r _ HE.out HG.out HO.out h2 hn hd).mono ?_
  rintro e W3 ⟨t3, rfl, ht3, it3, h3, e3⟩
  have HT3 : Hid (er t3 = (indexP T E r).2) := ht3
  obtain ⟨xa, xx, xy, hxe, _, hxt⟩ := HO.out (r.opened T [16])
  obtain ⟨u3, p3, hv3⟩ := val_iface (HT3.out.trans hxe) (by omega)
  have HV3 : Hid (valT t3 = .iface u3 (.pointer (some p3))) := hv3
  rw [hv3]
  clear hv3 hxe ht3
  have n3 := (e3.block w.heap.size (Array.getElem?_eq_some_iff.1 n2).1 hne).trans n2
  have h4 := h3.alloc (.cells #[.int .i64 20] 141)
  have e4 := (Ex.refl b W3).alloc (.cells #[.int .i64 20] 141)
  have k4 := kinds_new W3 [20] #[.int .i64 20] rfl
  have n4 : (W3.alloc (.cells #[.int .i64 20] 141)).heap[w.heap.size]? = _ := (Below.heap_alloc _ _ _ (Array.getElem?_eq_some_iff.1 n3).1).trans n3
  go_wp2_with fail
  refine (take_any T g cap b _ W3.heap.size 1 [20] _ h4 k4 (by decide) (by decide)).mono ?_
  rintro e W5 ⟨rfl, h5, e5⟩
  have n5 := (e5.block w.heap.size (Array.getElem?_eq_some_iff.1 n4).1 hne).trans n4
  have it5 := ((it3.mono e2.size).ex h3 e4).ex h4 e5
  have ee := ((e2.trans e3).trans e4).trans e5
  obtain ⟨m0, m1, m2⟩ := name_block n5
  have m0' : W5.drew.cell? ⟨w.heap.size, 0, none⟩ = some (.string tk.text) := m0
  have hf : Hid (storeP T E tk r = ((valueP T E ((indexP T E r).1.take T [20])).1, mk { tag := 10, name := tk.text, npos := tk.pos } (indexP T E r).2 (valueP T E ((indexP T E r).1.take T [20])).2)) := rfl
  clear h2 e2 n2 n3 n4 h4 e4 k4 it3
  go_wp2_with fail
  go_region_held3 (fun w' => w'.cell? ⟨w.heap.size, 0, none⟩ = some (.string tk.text) ∧ w'.cell? ⟨w.heap.size, 1, none⟩ = some (.int .i64 tk.pos) ∧ w'.cell? ⟨w.heap.size, 2, none⟩ = some (.int .i64 0))
    (first
      | (refine ⟨?_, ?_, ?_⟩ <;> assumption)
      | go_keep)
    ((refine step_call rfl 300 #[.pointer (some ⟨b, 0, none⟩)] _ (by go_simp) (value_any T g cap b n E _ _ HE.out h5.drew hd2) ?_; rintro e W7 ⟨t7, rfl, ht7, it7, h7, e7⟩; refine ⟨_, rfl, ?_⟩; have HT7 : Hid (er t7 = (valueP T E ((indexP T E r).1.take T [20])).2) := ht7; clear ht7; have n7 := (e7.block w.heap.size (Array.getElem?_eq_some_iff.1 n5).1 hne).trans n5; have p0 := (name_block n7).1; have p1 := (name_block n7).2.1; have p2 := (name_block n7).2.2; obtain ⟨ya, yx, yy, hye, _, hyt⟩ := HO.out ((indexP T E r).1.take T [20]); obtain ⟨u7, p7, hv7⟩ := val_iface (HT7.out.trans hye) (by omega); have HV7 : Hid (valT t7 = .iface u7 (.pointer (some p7))) := hv7; rw [hv7]; clear hv7 hye))
  go_wp2
  go_ret
  have it7' := (it5.ex h5 (Ex.refl b W5).drew).ex h5.drew e7
  refine ⟨.node W7.heap.size 0 { tag := 10, name := tk.text, npos := tk.pos } t3 t7, rfl, ?_, New.node (it7'.ex h7 ((Ex.refl b W7).alloc _)) ((it7.mono ee.size).ex h7 ((Ex.refl b W7).alloc _)) (fun _ => (ee.drew.trans e7).size) (by simp) ?_, by rw [hf.out]; exact h7.alloc _, (ee.drew.trans e7).alloc _⟩
  · rw [hf.out, ← HT7.out, ← HT3.out]; rfl
  · exact ⟨_, heap_alloc_new W7 _, ⟨rfl, rfl, rfl⟩, by rw [HV3.out]; rfl, by rw [HV7.out]; rfl, rfl⟩
end Go.Proofs.YtikffmloeifkpaaGreatDoor

/- Package grammar: if. -/
namespace Go.Proofs.YtikffmloeifkpaaGreatDoor
open Go.RowKit Go.Lib Go.Deep

theorem RdW.setNew {T : List Tok} {g cap b : Nat} {r : Rd} {w : World} (h : RdW T g cap b r w) {k : Nat} {c : Array Value} {t : TypeId} (hk : w.heap[k]? = some (.cells c t (0, 0))) (h1 : t ≠ 145) (h2 : t ≠ 143) (o : Nat) (v : Value) :
    RdW T g cap b r (w.setCell ⟨k, o, none⟩ v) := by
  refine h.setOther ?_ ?_ o v
  · intro e
    rw [e, h.blk] at hk
    simp only [Option.some.injEq, Obj.cells.injEq] at hk
    exact h1 hk.2.1.symm
  · obtain ⟨cur, hc, _⟩ := h.row
    intro e
    rw [e, hc] at hk
    simp only [Option.some.injEq, Obj.cells.injEq] at hk
    exact h2 hk.2.1.symm

theorem New.set {H k : Nat} {w : World} {t : Tr} (h : New H w t) (hk : NotIn k t) (o : Nat) (v : Value) : New H (w.setCell ⟨k, o, none⟩ v) t := h.but (fun _ _ hne => Below.heap_setCell _ _ _ _ hne) hk

set_option maxRecDepth 100000 in
set_option maxHeartbeats 4000000 in
theorem if_any (T : List Tok) (g cap b n : Nat) (C B : Pr) (r : Rd) (w : World) (hC : Gives T g cap b 299 C (Dm T n 5)) (hGC : Goes T C) (hOC : So 7 9 C)
    (hB : Gives T g cap b 192 B (Dm T n 6)) (hGB : Goes T B) (hOB : SoL B) (h : RdW T g cap b r w) (hd : Dm T n 6 r) :
    Calls Tryz.prog 298 #[.pointer (some ⟨b, 0, none⟩)] w (Post T g cap b w (ifP T C B r) ptrT) := by
  have HC : Hid (Gives T g cap b 299 C (Dm T n 5)) := hC
  have HOC : Hid (So 7 9 C) := hOC
  have HB : Hid (Gives T g cap b 192 B (Dm T n 6)) := hB
  have HOB : Hid (SoL B) := hOB
  have a1 := hGC r h.lt
  have a2 := hGB _ a1.lt
  have hd0 : Dm T n 5 r := by obtain ⟨x, y, z⟩ := hd; exact ⟨by omega, y, z⟩
  have hd1 : Dm T n 6 (C r).1 := hd.adv a1
  have a3 := adv_skips h.ends a2.lt (show oneOf [8] 0 = false by decide)
  have hd3 : Dm T n 6 ((B (C r).1).1.skips T [8]) := hd.adv ((a1.trans a2).trans a3)
  clear hC hOC hB hOB
  go_enter Tryz.func298, Tryz.ntmps298
  go_wp2_with fail
  refine (HC.out r w h hd0).mono ?_
  rintro e W1 ⟨t1, rfl, ht1, it1, h1, e1⟩
  have HT1 : Hid (er t1 = (C r).2) := ht1
  obtain ⟨xa, xx, xy, hxe, _, hxt⟩ := HOC.out r
  obtain ⟨u1, p1, hv1⟩ := val_iface (HT1.out.trans hxe) (by omega)
  have HV1 : Hid (valT t1 = .iface u1 (.pointer (some p1))) := hv1
  rw [hv1]
  clear hv1 hxe ht1
  go_wp2_with fail
  refine (HB.out _ W1 h1 hd1).mono ?_
  rintro e W2 ⟨t2, rfl, ht2, it2, h2, e2⟩
  have HT2 : Hid (er t2 = (B (C r).1).2) := ht2
  obtain ⟨ao, ln, cq, hv2⟩ := val_list (t := t2) (by rw [HT2.out]; exact HOB.out _)
  have HV2 : Hid (valT t2 = .slice ao ln cq) := hv2
  rw [hv2]
  clear hv2 ht2
  have it12 := it1.ex h1 e2
  have s3 : (W2.alloc (.cells #[.iface u1 (.pointer (some p1)), .slice ao ln cq, .slice none 0 0] 337)).heap.size = W2.heap.size + 1 := by simp
  have h3 := (h2.alloc (.cells #[.iface u1 (.pointer (some p1)), .slice ao ln cq, .slice none 0 0] 337)).alloc (.cells #[.int .i64 8] 141)
  have e3 := ((Ex.refl b W2).alloc (.cells #[.iface u1 (.pointer (some p1)), .slice ao ln cq, .slice none 0 0] 337)).alloc (.cells #[.int .i64 8] 141)
  have k3 := kinds_new (W2.alloc (.cells #[.iface u1 (.pointer (some p1)), .slice ao ln cq, .slice none 0 0] 337)) [8] #[.int .i64 8] rfl
  rw [s3] at k3
  have n3 : ((W2.alloc (.cells #[.iface u1 (.pointer (some p1)), .slice ao ln cq, .slice none 0 0] 337)).alloc (.cells #[.int .i64 8] 141)).heap[W2.heap.size]? = some (.cells #[.iface u1 (.pointer (some p1)), .slice ao ln cq, .slice none 0 0] 337 (0, 0)) :=
    (Below.heap_alloc _ _ _ (by rw [s3]; omega)).trans (heap_alloc_new W2 _)
  have hne : W2.heap.size ≠ b := by have := h2.size; omega
  have o1 := it12.out (k := W2.heap.size) (Nat.le_refl _)
  have o2 := it2.out (k := W2.heap.size) (Nat.le_refl _)
  go_wp2_with fail
  refine (skips_any T g cap b _ (W2.heap.size + 1) 1 [8] _ h3 k3 (by decide) (by decide)).mono ?_
  rintro e W4 ⟨rfl, h4, e4⟩
  have n4 := (e4.block W2.heap.size (Array.getElem?_eq_some_iff.1 n3).1 hne).trans n3
  have i14 := (it12.ex h2 e3).ex h3 e4
  have i24 := (it2.ex h2 e3).ex h3 e4
  have ee := ((e1.trans e2).trans e3).trans e4
  have hH : w.heap.size ≤ W2.heap.size := (e1.trans e2).size
  clear k3 s3 h3 n3
  cases hs : stands T (B (C r).1).1 [8]
  · have hsk : (B (C r).1).1.skips T [8] = (B (C r).1).1 := by unfold Rd.skips; rw [hs]; rfl
    rw [hsk] at h4
    have hf : Hid (ifP T C B r = ((B (C r).1).1, mk { tag := 11 } (C r).2 (mk { tag := 18 } (B (C r).1).2 .nil))) := by unfold Hid ifP; dsimp only; rw [hs]; rfl
    go_wp2
    go_ret
    refine ⟨.node W2.heap.size 0 { tag := 11 } t1 (.node 0 0 { tag := 18 } t2 .nil), rfl, ?_, New.node i14 (New.node (i24.mono e1.size) (New.nil _ _) (fun p => absurd rfl p.2.1) (by simp) trivial) (fun _ => hH) (by simp) ?_, by rw [hf.out]; exact h4, ee⟩
    · rw [hf.out, ← HT1.out, ← HT2.out]; rfl
    · exact ⟨_, n4, by rw [HV1.out]; rfl, _, _, _, _, _, rfl, by rw [HV2.out]; rfl, rfl⟩
  · have hf : Hid (ifP T C B r = ((B ((B (C r).1).1.skips T [8])).1, mk { tag := 11 } (C r).2 (mk { tag := 18 } (B (C r).1).2 (B ((B (C r).1).1.skips T [8])).2))) := by unfold Hid ifP; dsimp only; rw [hs]; rfl
    go_wp2_with fail
    refine (HB.out _ W4 h4 hd3).mono ?_
    rintro e W5 ⟨t5, rfl, ht5, it5, h5, e5⟩
    have HT5 : Hid (er t5 = (B ((B (C r).1).1.skips T [8])).2) := ht5
    obtain ⟨ao5, ln5, cq5, hv5⟩ := val_list (t := t5) (by rw [HT5.out]; exact HOB.out _)
    have HV5 : Hid (valT t5 = .slice ao5 ln5 cq5) := hv5
    rw [hv5]
    clear hv5 ht5
    have n5 := (e5.block W2.heap.size (Array.getElem?_eq_some_iff.1 n4).1 hne).trans n4
    obtain ⟨m0, m1, m2, mf⟩ := three_cells n5
    have mf2 := mf 2
    have l4 : W2.heap.size < W4.heap.size := (Array.getElem?_eq_some_iff.1 n4).1
    have o5 := it5.fresh.notIn l4
    go_wp2
    go_ret
    refine ⟨.node W2.heap.size 0 { tag := 11 } t1 (.node 0 0 { tag := 18 } t2 t5), rfl, ?_, New.node ((i14.ex h4 e5).set o1 _ _) (New.node (((i24.ex h4 e5).mono e1.size).set o2 _ _) ((it5.mono ee.size).set o5 _ _) (fun p => absurd rfl p.2.1) (by simp) trivial) (fun _ => hH) (by simp) ?_, by rw [hf.out]; exact h5.setNew n5 (by decide) (by decide) _ _, (ee.trans e5).setNew hH _ _⟩
    · rw [hf.out, ← HT1.out, ← HT2.out, ← HT5.out]; rfl
    · exact ⟨_, heap_set _ n5, by rw [HV1.out]; rfl, _, _, _, _, _, rfl, by rw [HV2.out]; rfl, by rw [HV5.out]; rfl⟩
end Go.Proofs.YtikffmloeifkpaaGreatDoor

/- Package grammar: a block. -/
namespace Go.Proofs.YtikffmloeifkpaaGreatDoor
open Go.RowKit Go.Lib Go.Deep

theorem Tryz.infoS : (Tryz.prog.info? 250).map (fun i => (i.zero, i.size, i.bytes)) = some (some .nilIface, 1, 16) := by kernel_rfl
theorem typ_S {t : Tr} {a : Nd} {x y : Tr} (h : er t = mk a x y) (h1 : 9 ≤ a.tag) (h2 : a.tag < 15) : elemCells t = [valT t] ∧ rowTyp (cons t .nil) = 250 ∧ ∃ b o a l q, t = .node b o a l q ∧ (a.tag = 19 ↔ 1 = 3) := by
  obtain ⟨b, o, l, r, rfl, _, _⟩ := node_of h
  refine ⟨?_, ?_, b, o, a, l, r, rfl, ⟨fun h => by omega, fun h => by omega⟩⟩
  · show (if a.tag = 19 then [Value.string a.name, .int .i64 a.npos, .int .i64 a.which] else if a.tag = 7 then [ptrT (.node b o a l r)] else [valT (.node b o a l r)]) = _
    rw [if_neg (by omega), if_neg (by omega)]
  · show (if a.tag = 19 then _ else if a.tag = 7 then _ else if a.tag < 7 then _ else if a.tag < 15 then _ else _) = _
    rw [if_neg (by omega), if_neg (by omega), if_neg (by omega), if_pos (by omega)]
theorem rowTyp_cons (t l : Tr) : rowTyp (cons t l) = rowTyp (cons t .nil) := by cases t <;> rfl

theorem opened_or {T : List Tok} {r : Rd} {ks : List Int} : stands T r ks = true ∨ (r.opened T ks).next = T.length - 1 := by
  cases hs : stands T r ks
  · right
    show ((r.take T ks).deeper T.length (took T r ks).pos).next = _
    have h1 : (r.take T ks).next = T.length - 1 := by unfold Rd.take; rw [hs]; exact (fail_next _ _ _ _).1
    unfold Rd.deeper
    split
    · exact (fail_next _ _ _ _).1
    · exact h1
  · exact .inl rfl

theorem slice_any {w : World} {base n sz : Nat} {e : TypeId} {v : Value} {xs : List Value} (h : w.ownsRow base e sz v n xs) : ∃ ao cp, v = .slice ao n cp ∧ (n = 0 ∨ ∃ g, ao = some ⟨g, 0, none⟩) := by
  rcases h.2 with ⟨rfl, rfl⟩ | ⟨g, cap, cur, rfl, _⟩
  · exact ⟨none, 0, rfl, .inl rfl⟩
  · exact ⟨_, cap, rfl, .inr ⟨g, rfl⟩⟩

/-- A part that goes on wherever there is a word. -/
def Strict (T : List Tok) (n : Nat) (S : Pr) : Prop := ∀ r, Dm T n 7 r → r.next + 1 < T.length → r.next + 1 ≤ (S r).1.next

set_option maxRecDepth 100000 in
set_option maxHeartbeats 4000000 in
theorem block_any (T : List Tok) (g cap b n : Nat) (S : Pr) (r : Rd) (w : World) (hS : Gives T g cap b 246 S (Dm T n 7)) (hG : Goes T S) (hO : So 9 15 S) (hA : Strict T n S) (h : RdW T g cap b r w) (hd : Dm T (n + 1) 6 r) :
    Calls Tryz.prog 192 #[.pointer (some ⟨b, 0, none⟩)] w (Post T g cap b w (blockP T S n r) valT) := by
  have HS : Hid (Gives T g cap b 246 S (Dm T n 7)) := hS
  have HG : Hid (Goes T S) := hG
  have HO : Hid (So 9 15 S) := hO
  have HA : Hid (Strict T n S) := hA
  clear hS hG hO hA
  obtain ⟨i0, hi0, hz0, hz1, hz2⟩ := info_parts Tryz.infoS
  have h1 := h.alloc (.cells #[.int .i64 14] 141)
  have e1 := (Ex.refl b w).alloc (.cells #[.int .i64 14] 141)
  have k1 := kinds_new w [14] #[.int .i64 14] rfl
  obtain ⟨o1, o2, o3⟩ := opened_next h.ends h.lt (show oneOf [14] 0 = false by decide)
  have hfew := h.few
  have hends := h.ends
  have hlt0 := h.lt
  have hgo : ∀ rc : Rd, (r.opened T [14]).next ≤ rc.next → rc.nest = (r.opened T [14]).nest → rc.next < T.length → stands T rc [15, 0] = false → Dm T n 7 rc ∧ rc.next + 1 < T.length := by
    intro rc hge hnest hl hst
    have hne : rc.next ≠ T.length - 1 := by
      intro e
      unfold stands tokAt at hst
      rw [e, hends] at hst
      exact absurd hst (by decide)
    rcases opened_or (T := T) (r := r) (ks := [14]) with hs | hs
    · have h2 := opened_stands hends hlt0 (show oneOf [14] 0 = false by decide) hs
      obtain ⟨x, y, z⟩ := hd
      exact ⟨⟨by omega, by omega, by omega⟩, by omega⟩
    · omega
  have HGo : Hid _ := hgo
  clear hgo
  go_enter Tryz.func192, Tryz.ntmps192
  go_wp2_with fail
  refine (open_any T g cap b r w.heap.size 1 [14] _ h1 k1 (by decide) (by decide) hd.nest).mono ?_
  rintro e W2 ⟨rfl, h2, e2⟩
  have e12 := e1.trans e2
  go_wp2_with fail
  go_loopg [3] n (fun m v wr => ∃ (rc : Rd) (acc : Tr), wr.ownsRow w.heap.size 250 1 v (lenL acc) (rowCells acc) ∧ (acc = .nil → v = .slice none 0 0) ∧ (acc ≠ .nil → rowTyp acc = 250) ∧ Sized 1 acc ∧ New w.heap.size wr acc ∧ (∀ k, v.ownBlock = some k → NotIn k acc) ∧ RdW T g cap b rc wr ∧ Ex b w wr ∧
      (r.opened T [14]).next ≤ rc.next ∧ rc.nest = (r.opened T [14]).nest ∧ T.length - rc.next ≤ m + 1 ∧ lenL acc ≤ rc.next ∧
      app (er acc) (blockL T S m rc).2 = (blockL T S n (r.opened T [14])).2 ∧ (blockL T S m rc).1 = (blockL T S n (r.opened T [14])).1)
  case atStart =>
    refine ⟨_, .nil, World.ownsRow_nil _ _ _ _, fun _ => rfl, fun h => absurd rfl h, trivial, New.nil _ _, fun k hk => by simp [Value.ownBlock] at hk, h2, e12, Nat.le_refl _, rfl, ?_, Nat.zero_le _, rfl, rfl⟩
    obtain ⟨x, y, z⟩ := hd
    omega
  case round =>
    obtain ⟨rc, acc, own, hnil, hrt, hsz, iac, hni, hc, ec, hge, hnest, hm, hlen, hrun, hrun2⟩ := hrel
    have HR : Hid (app (er acc) (blockL T S gk rc).2 = (blockL T S n (r.opened T [14])).2) := hrun
    have HR2 : Hid ((blockL T S gk rc).1 = (blockL T S n (r.opened T [14])).1) := hrun2
    have HRT2 : Hid (acc ≠ .nil → rowTyp acc = 250) := hrt
    obtain ⟨ao, cp, rfl, hao⟩ := slice_any own
    have HNil : Hid (acc = .nil → (Value.slice ao (lenL acc) cp) = .slice none 0 0) := hnil
    clear hrun hrun2 hrt hnil
    have hc2 := hc.alloc (.cells #[.int .i64 15, .int .i64 0] 141)
    have e2 := (Ex.refl b wr).alloc (.cells #[.int .i64 15, .int .i64 0] 141)
    have ia2 := iac.ex hc e2
    have own2 := own.alloc (.cells #[.int .i64 15, .int .i64 0] 141)
    have hk2 := kinds_new wr [15, 0] #[.int .i64 15, .int .i64 0] rfl
    go_wp2_with fail
    refine (stands_any T g cap b rc wr.heap.size 2 [15, 0] _ hc2 hk2 (by decide)).mono ?_
    rintro e W3 ⟨rfl, nn, rfl⟩
    have hc3 := hc2.drewN nn
    have ia3 := ia2.ex hc2 ((Ex.refl b _).drewN nn)
    have own3 := ownsRow_ex own2 hc2.blk (by decide) ((Ex.refl b _).drewN nn)
    have ec3 := (ec.trans e2).drewN nn
    clear own2 ia2 hk2 hc2 e2
    generalize ((wr.alloc (.cells #[.int .i64 15, .int .i64 0] 141)).drewN nn) = W3 at *
    cases hs : stands T rc [15, 0]
    · obtain ⟨hdS, hlt2⟩ := HGo.out rc hge hnest hc.lt hs
      go_wp2_with fail
      refine (HS.out _ _ hc3 hdS).mono ?_
      rintro e W5 ⟨t5, rfl, ht5, it5, h5, e5⟩
      have HT5 : Hid (er t5 = (S rc).2) := ht5
      obtain ⟨ya, yx, yy, hye, hy1, hy2⟩ := HO.out rc
      obtain ⟨hec5, hrt5, hnd5⟩ := typ_S (HT5.out.trans hye) hy1 hy2
      obtain ⟨u5, p5, hv5⟩ := val_iface (HT5.out.trans hye) (by omega)
      have HV5 : Hid (valT t5 = .iface u5 (.pointer (some p5))) := hv5
      have HE5 : Hid (elemCells t5 = [valT t5]) := hec5
      have HRT5 : Hid (rowTyp (cons t5 .nil) = 250) := hrt5
      rw [hv5]
      clear hv5 hye ht5 hec5 hrt5
      obtain ⟨m, rfl⟩ : ∃ m, gk = m + 1 := ⟨gk - 1, by omega⟩
      have a5 := HG.out rc hc.lt
      have hA5 := HA.out rc hdS hlt2
      have own5 := ownsRow_ex own3 hc3.blk (by decide) e5
      have ia5 := ia3.ex hc3 e5
      have ec5 := ec3.trans e5
      have hw5 := ec5.size
      have hltS := a5.lt
      have hl4 : lenL acc ≤ 5000 := by omega
      go_wp2_with (at_builtin; refine wpList_append_lies _ rfl _ _ 103 rfl w.heap.size 250 i0 _ 1 16 Tryz.underlying103 hi0 hz0 hz1 hz2 rfl (by omega) (.slice ao (lenL acc) cp) (lenL acc) (rowCells acc) rfl (own5.alloc _) ⟨W5.heap.size, 0, none⟩ 1 1 [.iface u5 (.pointer (some p5))] rfl rfl (World.news_of_block (cs := #[.iface u5 (.pointer (some p5))]) (t := 250) (fr := (0, 0)) (heap_alloc_new W5 _)) (by simp [Value.oneCell']) (by omega) (by unfold maxLen; omega) (by omega) (by simp; omega) (W5.heap.size + 1) (by simp) ?_; intro g6 cp6 W6 own6 grow6 hat6 hlt6)
      have e6 : Ex b W5 (W5.alloc (.cells #[.iface u5 (.pointer (some p5))] 250)) := (Ex.refl b W5).alloc _
      have h6 := h5.alloc (.cells #[.iface u5 (.pointer (some p5))] 250)
      have ia6 := ia5.ex h5 e6
      have ib6 := it5.ex h5 e6
      have rne : ∀ k, Value.ownBlock (.slice ao (lenL acc) cp) = some k → k ≠ b ∧ k ≠ g := by
        intro k hk
        rcases (own5.alloc (.cells #[.iface u5 (.pointer (some p5))] 250)).2 with ⟨hx, _⟩ | ⟨g', cap', cur, hv, _, hh, _⟩
        · rw [hx] at hk; simp [Value.ownBlock] at hk
        · rw [hv] at hk
          simp only [Value.ownBlock, Option.some.injEq] at hk
          subst hk
          refine ⟨fun e1 => ?_, fun e1 => ?_⟩
          · rw [e1, h6.blk] at hh
            simp at hh
          · obtain ⟨cur2, hc9, _⟩ := h6.row
            rw [e1, hc9] at hh
            simp at hh
      have h7 : RdW T g cap b (S rc).1 W6 := h6.move (grow6.block b h6.size (fun e1 => (rne b e1.symm).1 rfl)) (grow6.block g h6.gsize (fun e1 => (rne g e1.symm).2 rfl))
      have e7 : Ex b w W6 := Ex.grown (ec5.alloc _) grow6 (fun k hk => (own.lt k hk).1)
      have hold : ∀ k, (Value.slice ao (lenL acc) cp).ownBlock = some k → k < W3.heap.size := fun k hk => (own3.lt k hk).2
      have ia7 : New w.heap.size W6 acc := by
        cases hob : (Value.slice ao (lenL acc) cp).ownBlock with
        | none => rw [hob] at grow6; exact ia6.but (k := (W5.alloc (.cells #[.iface u5 (.pointer (some p5))] 250)).heap.size) (fun i hi _ => grow6.block i hi (by simp)) (ia6.out (Nat.le_refl _))
        | some k => rw [hob] at grow6; exact ia6.but (k := k) (fun i hi hne => grow6.block i hi (fun e1 => hne (Option.some.inj e1))) (hni k hob)
      have ib7 : New w.heap.size W6 t5 := by
        refine New.mono ?_ ec3.size
        cases hob : (Value.slice ao (lenL acc) cp).ownBlock with
        | none => rw [hob] at grow6; exact ib6.but (k := (W5.alloc (.cells #[.iface u5 (.pointer (some p5))] 250)).heap.size) (fun i hi _ => grow6.block i hi (by simp)) (ib6.out (Nat.le_refl _))
        | some k => rw [hob] at grow6; exact ib6.but (k := k) (fun i hi hne => grow6.block i hi (fun e1 => hne (Option.some.inj e1))) (ib6.fresh.notIn (hold k hob))
      have nis : NotIn g6 (snoc acc t5) := by
        rcases hat6 with hx | hx
        · exact notIn_snoc (hni g6 hx) (ib6.fresh.notIn (hold g6 hx))
        · subst hx
          have hs5 : (W5.alloc (.cells #[.iface u5 (.pointer (some p5))] 250)).heap.size = W5.heap.size + 1 := by simp
          exact notIn_snoc (ia6.out (by omega)) (ib6.out (by omega))
      have fin : ∃ (rc : Rd) (acc' : Tr), W6.ownsRow w.heap.size 250 1 (.slice (some ⟨g6, 0, none⟩) (lenL acc + 1) cp6) (lenL acc') (rowCells acc') ∧ (acc' = .nil → Value.slice (some ⟨g6, 0, none⟩) (lenL acc + 1) cp6 = .slice none 0 0) ∧ (acc' ≠ .nil → rowTyp acc' = 250) ∧ Sized 1 acc' ∧ New w.heap.size W6 acc' ∧
          (∀ k, (Value.slice (some ⟨g6, 0, none⟩) (lenL acc + 1) cp6).ownBlock = some k → NotIn k acc') ∧ RdW T g cap b rc W6 ∧ Ex b w W6 ∧ (r.opened T [14]).next ≤ rc.next ∧ rc.nest = (r.opened T [14]).nest ∧ T.length - rc.next ≤ m + 1 ∧ lenL acc' ≤ rc.next ∧
          app (er acc') (blockL T S m rc).2 = (blockL T S n (r.opened T [14])).2 ∧ (blockL T S m rc).1 = (blockL T S n (r.opened T [14])).1 := by
        have h3 : blockL T S (m + 1) rc = ((blockL T S m (S rc).1).1, cons (S rc).2 (blockL T S m (S rc).1).2) := by
          show (if _ then _ else _) = _; rw [if_neg (by rw [hs]; decide)]
        have r1 := HR.out
        have r2 := HR2.out
        rw [h3] at r1 r2
        refine ⟨(S rc).1, snoc acc t5, ?_, fun hx => absurd hx (snoc_ne _ _), fun _ => ?_, ?_, New.snoc hsz ia7 ib7, ?_, h7, e7, by omega, by rw [a5.nest]; exact hnest, by omega, ?_, ?_, r2⟩
        · rw [lenL_snoc, rowCells_snoc, HE5.out, HV5.out]; exact own6
        · cases hac : acc with
          | nil => show rowTyp (cons t5 .nil) = _; exact HRT5.out
          | node b1 o1 a1 x1 q1 => rw [← hac, rowTyp_snoc (by rw [hac]; intro h; cases h)]; exact HRT2.out (by rw [hac]; intro h; cases h)
        · exact sized_snoc hsz hnd5 (by rw [HE5.out]; rfl)
        · intro k hk
          simp only [Value.ownBlock, Option.some.injEq] at hk
          subst hk
          exact nis
        · rw [lenL_snoc]; omega
        · rw [er_snoc, app_snoc, HT5.out]
          exact r1
      clear HR HR2 HS HG HO HA HV5 HE5 HRT2 HRT5 HNil HT5 hat6 ia7 ib7 nis ia6 ib6 ia5 ia3 it5 own6 own5 own3 own h7 e7 h6 e6 hsz iac hni hc ec rne grow6 hold hao
      go_wp2
      go_roundg m
      case rel => exact fin
      case measure => omega
    · have hend : blockL T S gk rc = (rc, .nil) := by
        cases gk with
        | zero => rfl
        | succ gk => show (if _ then _ else _) = _; rw [if_pos hs]
      have r1 := HR.out
      have r2 := HR2.out
      rw [hend] at r1 r2
      rw [app_nil] at r1
      have hn3 : 0 ≤ rc.nest ∧ rc.nest ≤ 1000000 := by obtain ⟨x, y, z⟩ := hd; omega
      have R1 : Hid (er acc = (blockL T S n (r.opened T [14])).2) := r1
      have R2 : Hid (rc = (blockL T S n (r.opened T [14])).1) := r2
      clear r1 r2 hend HR HR2
      go_wp2_with fail
      refine (shut_any T g cap b rc 15 W3 hc3 (by decide) hn3).mono ?_
      rintro e W4 ⟨rfl, h4, e4⟩
      have own4 := ownsRow_ex own3 hc3.blk (by decide) e4
      have ia4 := ia3.ex hc3 e4
      have fin : Post T g cap b w (blockP T S n r) valT (.returned (.slice ao (lenL acc) cp)) W4 := by
        have h5 : RdW T g cap b (blockP T S n r).1 W4 := by
          show RdW T g cap b ((blockL T S n (r.opened T [14])).1.shut T 15) W4
          rw [← R2.out]; exact h4
        cases hac : acc with
        | nil =>
          refine ⟨.nil, ?_, ?_, New.nil _ _, h5, ec3.trans e4⟩
          · have := HNil.out hac
            rw [hac] at this
            rw [this]; rfl
          · show er .nil = listed (blockL T S n (r.opened T [14])).2
            rw [← R1.out, hac]; rfl
        | node b1 o1 a1 x1 q1 =>
          have hne : acc ≠ .nil := by rw [hac]; intro h; cases h
          rw [← hac]
          rcases hao with h0 | ⟨gg, rfl⟩
          · have := len_pos hne; omega
          refine ⟨.node gg cp { tag := 20 } acc .nil, rfl, ?_, New.listed hne hsz ia4 (by rw [HRT2.out hne]; exact own4), h5, ec3.trans e4⟩
          show er (.node gg cp { tag := 20 } acc .nil) = listed (blockL T S n (r.opened T [14])).2
          rw [← R1.out, hac]; rfl
      clear R1 R2 HRT2 HNil
      go_wp2
      go_ret
      exact fin
end Go.Proofs.YtikffmloeifkpaaGreatDoor

/- Package grammar: a statement. -/
namespace Go.Proofs.YtikffmloeifkpaaGreatDoor
open Go.RowKit Go.Lib Go.Deep

theorem val_tag {t : Tr} {a : Nd} {x y : Tr} (h : er t = mk a x y) (ha : a.tag ≠ 20) : ∃ p, ptrT t = .pointer (some p) ∧ valT t = .iface (ityp a.tag) (.pointer (some p)) := by
  obtain ⟨b, o, l, r, rfl, _, _⟩ := node_of h
  exact ⟨⟨b, 0, none⟩, rfl, if_neg ha⟩
theorem dm_down {T : List Tok} {n : Nat} {r r' : Rd} (h : Dm T (n + 1) 7 r) (a : Adv T r r') (q : Nat) (hq : q ≤ 6) : Dm T n q r' := by
  obtain ⟨h1, h2, h3⟩ := h
  have := a.ge
  have := a.nest
  exact ⟨by omega, by omega, by omega⟩
theorem dm_down_open {T : List Tok} (he : Ends T) {n : Nat} {r r' : Rd} (h : Dm T (n + 1) 7 r) (a : Adv T r r') {ks : List Int} (h0 : oneOf ks 0 = false) (q : Nat) (hq : q ≤ 6) : Dm T n q (r'.opened T ks) := by
  obtain ⟨h1, h2, h3⟩ := h
  have := a.ge
  have := a.nest
  obtain ⟨o1, o2, o3⟩ := opened_next he a.lt h0
  exact ⟨by omega, by omega, by omega⟩

set_option maxRecDepth 100000 in
set_option maxHeartbeats 4000000 in
theorem stmt_any (T : List Tok) (g cap b n : Nat) (E C B : Pr) (r : Rd) (w : World) (hE : Gives T g cap b 335 E (Dm T n 2)) (hGE : Goes T E) (hOE : So 0 7 E)
    (hC : Gives T g cap b 299 C (Dm T n 5)) (hGC : Goes T C) (hOC : So 7 9 C) (hB : Gives T g cap b 192 B (Dm T n 6)) (hGB : Goes T B) (hOB : SoL B) (h : RdW T g cap b r w) (hd : Dm T (n + 1) 7 r) :
    Calls Tryz.prog 246 #[.pointer (some ⟨b, 0, none⟩)] w (Post T g cap b w (stmtP T E C B r) valT) := by
  have HE : Hid (Gives T g cap b 335 E (Dm T n 2)) := hE
  have HGE : Hid (Goes T E) := hGE
  have HOE : Hid (So 0 7 E) := hOE
  have HC : Hid (Gives T g cap b 299 C (Dm T n 5)) := hC
  have HGC : Hid (Goes T C) := hGC
  have HOC : Hid (So 7 9 C) := hOC
  have HB : Hid (Gives T g cap b 192 B (Dm T n 6)) := hB
  have HGB : Hid (Goes T B) := hGB
  have HOB : Hid (SoL B) := hOB
  clear hE hGE hOE hC hGC hOC hB hGB hOB
  have h1 := h.alloc (.cells #[.int .i64 6, .int .i64 1, .int .i64 7, .int .i64 9, .int .i64 10, .int .i64 11] 141)
  have e1 := (Ex.refl b w).alloc (.cells #[.int .i64 6, .int .i64 1, .int .i64 7, .int .i64 9, .int .i64 10, .int .i64 11] 141)
  have k1 := kinds_new w stmtOps #[.int .i64 6, .int .i64 1, .int .i64 7, .int .i64 9, .int .i64 10, .int .i64 11] rfl
  go_enter Tryz.func246, Tryz.ntmps246
  go_wp2_with fail
  refine (take_any T g cap b r w.heap.size 6 stmtOps _ h1 k1 (by decide) (by decide)).mono ?_
  rintro e W2 ⟨rfl, h2, e2⟩
  have hends := h.ends
  have a2 := adv_take h.ends h.lt (show oneOf stmtOps 0 = false by decide)
  generalize hq : took T r stmtOps = q at *
  have HQ : Hid (took T r stmtOps = q) := hq
  clear hq
  rw [Tok.val_eq]
  have h3 := h2.alloc (.cells #[.int .i64 q.kind, .int .i64 q.pos, .string q.text, .int .i64 q.value] 143)
  have e3 := (e1.trans e2).alloc (.cells #[.int .i64 q.kind, .int .i64 q.pos, .string q.text, .int .i64 q.value] 143)
  have n3 : (W2.alloc (.cells #[.int .i64 q.kind, .int .i64 q.pos, .string q.text, .int .i64 q.value] 143)).heap[W2.heap.size]? = some (.cells #[.int .i64 q.kind, .int .i64 q.pos, .string q.text, .int .i64 q.value] 143 (0, 0)) := heap_alloc_new W2 _
  obtain ⟨m0, m1, m2, m3, _⟩ := four_cells n3
  have hn2 : 0 ≤ (r.take T stmtOps).nest ∧ (r.take T stmtOps).nest ≤ 1000000 := by rw [a2.nest]; exact hd.nest
  clear h1 e1 k1 h2 e2
  by_cases k6 : q.kind = 6
  · have k6' : (q.kind == 6) = true := by simpa using k6
    have hf : Hid (stmtP T E C B r = setP T E (took T (r.take T stmtOps) [1]) true ((r.take T stmtOps).take T [1])) := by unfold Hid stmtP; dsimp only; rw [HQ.out, if_pos k6]
    clear k6
    go_wp2_with fail
    generalize W2.alloc (.cells #[.int .i64 q.kind, .int .i64 q.pos, .string q.text, .int .i64 q.value] 143) = W3 at *
    refine (name_any T g cap b _ W3 h3).mono ?_
    rintro e W4 ⟨rfl, h4, e4⟩
    have a4 := a2.trans (adv_take hends a2.lt (show oneOf [1] 0 = false by decide))
    have a5 := a4.trans (adv_take hends a4.lt (show oneOf [20] 0 = false by decide))
    go_wp2_with fail
    refine (set_any T g cap b n E (took T (r.take T stmtOps) [1]) true _ W4 HE.out HOE.out h4 (dm_down hd a5 2 (by omega))).mono ?_
    rintro e W7 ⟨t7, rfl, ht7, it7, h7, e7⟩
    have HT7 : Hid (er t7 = (setP T E (took T (r.take T stmtOps) [1]) true ((r.take T stmtOps).take T [1])).2) := ht7
    clear ht7
    obtain ⟨p7, hp7, hv7⟩ := val_tag HT7.out (by simp)
    have HV7 : Hid (valT t7 = .iface 326 (.pointer (some p7))) := hv7
    rw [hp7]
    clear hp7 hv7
    go_wp2
    go_ret
    exact ⟨t7, by rw [HV7.out]; rfl, by rw [hf.out]; exact HT7.out, it7.mono (e3.trans e4).size, by rw [hf.out]; exact h7, (e3.trans e4).trans e7⟩
  have k6' : (q.kind == 6) = false := by simpa using k6
  by_cases k7 : q.kind = 7
  · have k7' : (q.kind == 7) = true := by simpa using k7
    have hf : Hid (stmtP T E C B r = ifP T C B (r.take T stmtOps)) := by unfold Hid stmtP; dsimp only; rw [HQ.out, if_neg k6, if_pos k7]
    clear k6 k7
    go_wp2_with fail
    generalize W2.alloc (.cells #[.int .i64 q.kind, .int .i64 q.pos, .string q.text, .int .i64 q.value] 143) = W3 at *
    refine (if_any T g cap b n C B _ W3 HC.out HGC.out HOC.out HB.out HGB.out HOB.out h3 (dm_down hd a2 6 (by omega))).mono ?_
    rintro e W7 ⟨t7, rfl, ht7, it7, h7, e7⟩
    have HT7 : Hid (er t7 = (ifP T C B (r.take T stmtOps)).2) := ht7
    clear ht7
    obtain ⟨zp, zx, zy, hz, hzt⟩ : ∃ zp zx zy, (ifP T C B (r.take T stmtOps)).2 = mk zp zx zy ∧ zp.tag = 11 := by unfold ifP; dsimp only; split <;> exact ⟨_, _, _, rfl, rfl⟩
    obtain ⟨p7, hp7, hv7⟩ := val_tag (HT7.out.trans hz) (by omega)
    rw [hzt] at hv7
    have HV7 : Hid (valT t7 = .iface 332 (.pointer (some p7))) := hv7
    rw [hp7]
    clear hp7 hv7 hz
    go_wp2
    go_ret
    exact ⟨t7, by rw [HV7.out]; rfl, by rw [hf.out]; exact HT7.out, it7.mono e3.size, by rw [hf.out]; exact h7, e3.trans e7⟩
  have k7' : (q.kind == 7) = false := by simpa using k7
  by_cases k9 : q.kind = 9
  · have k9' : (q.kind == 9) = true := by simpa using k9
    have hf : Hid (stmtP T E C B r = ((B (C (r.take T stmtOps)).1).1, mk { tag := 12 } (C (r.take T stmtOps)).2 (B (C (r.take T stmtOps)).1).2)) := by unfold Hid stmtP; dsimp only; rw [HQ.out, if_neg k6, if_neg k7, if_pos k9]
    clear k6 k7 k9
    go_wp2_with fail
    generalize W2.alloc (.cells #[.int .i64 q.kind, .int .i64 q.pos, .string q.text, .int .i64 q.value] 143) = W3 at *
    refine (HC.out _ W3 h3 (dm_down hd a2 5 (by omega))).mono ?_
    rintro e W4 ⟨t4, rfl, ht4, it4, h4, e4⟩
    have HT4 : Hid (er t4 = (C (r.take T stmtOps)).2) := ht4
    obtain ⟨xa, xx, xy, hxe, _, hxt⟩ := HOC.out (r.take T stmtOps)
    obtain ⟨u4, p4, hv4⟩ := val_iface (HT4.out.trans hxe) (by omega)
    have HV4 : Hid (valT t4 = .iface u4 (.pointer (some p4))) := hv4
    rw [hv4]
    clear hv4 hxe ht4
    have a4 := a2.trans (HGC.out _ a2.lt)
    go_wp2_with fail
    refine (HB.out _ W4 h4 (dm_down hd a4 6 (by omega))).mono ?_
    rintro e W5 ⟨t5, rfl, ht5, it5, h5, e5⟩
    have HT5 : Hid (er t5 = (B (C (r.take T stmtOps)).1).2) := ht5
    obtain ⟨ao, ln, cq, hv5⟩ := val_list (t := t5) (by rw [HT5.out]; exact HOB.out _)
    have HV5 : Hid (valT t5 = .slice ao ln cq) := hv5
    rw [hv5]
    clear hv5 ht5
    go_wp2
    go_ret
    have ee := (e3.trans e4).trans e5
    refine ⟨.node W5.heap.size 0 { tag := 12 } t4 t5, rfl, ?_, New.node (((it4.mono e3.size).ex h4 e5).ex h5 ((Ex.refl b W5).alloc _)) ((it5.mono (e3.trans e4).size).ex h5 ((Ex.refl b W5).alloc _)) (fun _ => ee.size) (by simp) ?_, by rw [hf.out]; exact h5.alloc _, ee.alloc _⟩
    · rw [hf.out, ← HT4.out, ← HT5.out]; rfl
    · exact ⟨_, heap_alloc_new W5 _, by rw [HV4.out]; rfl, by rw [HV5.out]; rfl⟩
  have k9' : (q.kind == 9) = false := by simpa using k9
  by_cases k10 : q.kind = 10
  · have k10' : (q.kind == 10) = true := by simpa using k10
    have hf : Hid (stmtP T E C B r = ((valueP T E (r.take T stmtOps)).1, mk { tag := 13 } (valueP T E (r.take T stmtOps)).2 .nil)) := by unfold Hid stmtP; dsimp only; rw [HQ.out, if_neg k6, if_neg k7, if_neg k9, if_pos k10]
    clear k6 k7 k9 k10
    go_wp2_with fail
    generalize W2.alloc (.cells #[.int .i64 q.kind, .int .i64 q.pos, .string q.text, .int .i64 q.value] 143) = W3 at *
    refine (value_any T g cap b n E _ W3 HE.out h3 (dm_down hd a2 2 (by omega))).mono ?_
    rintro e W5 ⟨t5, rfl, ht5, it5, h5, e5⟩
    have HT5 : Hid (er t5 = (valueP T E (r.take T stmtOps)).2) := ht5
    obtain ⟨xa, xx, xy, hxe, _, hxt⟩ := HOE.out (r.take T stmtOps)
    obtain ⟨u5, p5, hv5⟩ := val_iface (HT5.out.trans hxe) (by omega)
    have HV5 : Hid (valT t5 = .iface u5 (.pointer (some p5))) := hv5
    rw [hv5]
    clear hv5 hxe ht5
    go_wp2
    go_ret
    have ee := e3.trans e5
    refine ⟨.node W5.heap.size 0 { tag := 13 } t5 .nil, rfl, ?_, New.node ((it5.mono e3.size).ex h5 ((Ex.refl b W5).alloc _)) (New.nil _ _) (fun _ => ee.size) (by simp) ?_, by rw [hf.out]; exact h5.alloc _, ee.alloc _⟩
    · rw [hf.out, ← HT5.out]; rfl
    · exact ⟨_, heap_alloc_new W5 _, by rw [HV5.out]; rfl⟩
  have k10' : (q.kind == 10) = false := by simpa using k10
  by_cases k11 : q.kind = 11
  · have k11' : (q.kind == 11) = true := by simpa using k11
    have hf : Hid (stmtP T E C B r = ((valueP T E (r.take T stmtOps)).1, mk { tag := 14 } (valueP T E (r.take T stmtOps)).2 .nil)) := by unfold Hid stmtP; dsimp only; rw [HQ.out, if_neg k6, if_neg k7, if_neg k9, if_neg k10, if_pos k11]
    clear k6 k7 k9 k10 k11
    go_wp2_with fail
    generalize W2.alloc (.cells #[.int .i64 q.kind, .int .i64 q.pos, .string q.text, .int .i64 q.value] 143) = W3 at *
    refine (value_any T g cap b n E _ W3 HE.out h3 (dm_down hd a2 2 (by omega))).mono ?_
    rintro e W5 ⟨t5, rfl, ht5, it5, h5, e5⟩
    have HT5 : Hid (er t5 = (valueP T E (r.take T stmtOps)).2) := ht5
    obtain ⟨xa, xx, xy, hxe, _, hxt⟩ := HOE.out (r.take T stmtOps)
    obtain ⟨u5, p5, hv5⟩ := val_iface (HT5.out.trans hxe) (by omega)
    have HV5 : Hid (valT t5 = .iface u5 (.pointer (some p5))) := hv5
    rw [hv5]
    clear hv5 hxe ht5
    go_wp2
    go_ret
    have ee := e3.trans e5
    refine ⟨.node W5.heap.size 0 { tag := 14 } t5 .nil, rfl, ?_, New.node ((it5.mono e3.size).ex h5 ((Ex.refl b W5).alloc _)) (New.nil _ _) (fun _ => ee.size) (by simp) ?_, by rw [hf.out]; exact h5.alloc _, ee.alloc _⟩
    · rw [hf.out, ← HT5.out]; rfl
    · exact ⟨_, heap_alloc_new W5 _, by rw [HV5.out]; rfl⟩
  have k11' : (q.kind == 11) = false := by simpa using k11
  have hf0 : Hid (stmtP T E C B r = if stands T (r.take T stmtOps) [16] then storeP T E q (r.take T stmtOps) else setP T E q false (r.take T stmtOps)) := by unfold Hid stmtP; dsimp only; rw [HQ.out, if_neg k6, if_neg k7, if_neg k9, if_neg k10, if_neg k11]
  clear k6 k7 k9 k10 k11
  have s3 : (W2.alloc (.cells #[.int .i64 q.kind, .int .i64 q.pos, .string q.text, .int .i64 q.value] 143)).heap.size = W2.heap.size + 1 := by simp
  have k4 := kinds_new (W2.alloc (.cells #[.int .i64 q.kind, .int .i64 q.pos, .string q.text, .int .i64 q.value] 143)) [16] #[.int .i64 16] rfl
  rw [s3] at k4
  have h4 := h3.alloc (.cells #[.int .i64 16] 141)
  have e4 := e3.alloc (.cells #[.int .i64 16] 141)
  have n4 : ((W2.alloc (.cells #[.int .i64 q.kind, .int .i64 q.pos, .string q.text, .int .i64 q.value] 143)).alloc (.cells #[.int .i64 16] 141)).heap[W2.heap.size]? = _ := (Below.heap_alloc _ _ _ (by rw [s3]; omega)).trans n3
  go_wp2_with fail
  refine (stands_any T g cap b _ (W2.heap.size + 1) 1 [16] _ h4 k4 (by decide)).mono ?_
  rintro e w' ⟨rfl, nn, rfl⟩
  have h5 := h4.drewN nn
  have e5 := e4.drewN nn
  have n5 : (((W2.alloc (.cells #[.int .i64 q.kind, .int .i64 q.pos, .string q.text, .int .i64 q.value] 143)).alloc (.cells #[.int .i64 16] 141)).drewN nn).heap[W2.heap.size]? = _ := n4
  clear m0 m1 m2 m3 h3 e3 n3 k4 h4 e4 n4 s3
  generalize (((W2.alloc (.cells #[.int .i64 q.kind, .int .i64 q.pos, .string q.text, .int .i64 q.value] 143)).alloc (.cells #[.int .i64 16] 141)).drewN nn) = W5 at *
  obtain ⟨m0, m1, m2, m3, _⟩ := four_cells n5
  cases hs : stands T (r.take T stmtOps) [16]
  · have hf : Hid (stmtP T E C B r = setP T E q false (r.take T stmtOps)) := by unfold Hid; rw [hf0.out, hs]; rfl
    go_wp2_with fail
    refine (nameOf_any q W5).mono ?_
    rintro e W6 ⟨rfl, b6⟩
    have h6 := h5.below b6
    have e6 := e5.trans (Ex.of_below (b := b) b6)
    have a5 := a2.trans (adv_take hends a2.lt (show oneOf [20] 0 = false by decide))
    go_wp2_with fail
    refine (set_any T g cap b n E q false _ W6 HE.out HOE.out h6 (dm_down hd a5 2 (by omega))).mono ?_
    rintro e W7 ⟨t7, rfl, ht7, it7, h7, e7⟩
    have HT7 : Hid (er t7 = (setP T E q false (r.take T stmtOps)).2) := ht7
    clear ht7
    obtain ⟨p7, hp7, hv7⟩ := val_tag HT7.out (by simp)
    have HV7 : Hid (valT t7 = .iface 326 (.pointer (some p7))) := hv7
    rw [hp7]
    clear hp7 hv7
    go_wp2
    go_ret
    exact ⟨t7, by rw [HV7.out]; rfl, by rw [hf.out]; exact HT7.out, it7.mono (e6).size, by rw [hf.out]; exact h7, (e6).trans e7⟩
  · have hf : Hid (stmtP T E C B r = storeP T E q (r.take T stmtOps)) := by unfold Hid; rw [hf0.out, hs]; rfl
    go_wp2_with fail
    refine (nameOf_any q W5).mono ?_
    rintro e W6 ⟨rfl, b6⟩
    have h6 := h5.below b6
    have e6 := e5.trans (Ex.of_below (b := b) b6)
    have a5 := a2.trans (goes_index hends HGE.out _ a2.lt)
    have a6 := a5.trans (adv_take hends a5.lt (show oneOf [20] 0 = false by decide))
    go_wp2_with fail
    refine (store_any T g cap b n E q _ W6 HE.out HGE.out HOE.out h6 hn2 (dm_down_open hends hd a2 (by decide) 2 (by omega)) (dm_down hd a6 2 (by omega))).mono ?_
    rintro e W7 ⟨t7, rfl, ht7, it7, h7, e7⟩
    have HT7 : Hid (er t7 = (storeP T E q (r.take T stmtOps)).2) := ht7
    clear ht7
    obtain ⟨p7, hp7, hv7⟩ := val_tag HT7.out (by simp)
    have HV7 : Hid (valT t7 = .iface 329 (.pointer (some p7))) := hv7
    rw [hp7]
    clear hp7 hv7
    go_wp2
    go_ret
    exact ⟨t7, by rw [HV7.out]; rfl, by rw [hf.out]; exact HT7.out, it7.mono (e6).size, by rw [hf.out]; exact h7, (e6).trans e7⟩
end Go.Proofs.YtikffmloeifkpaaGreatDoor
