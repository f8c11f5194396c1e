/- The program's contracts, part 9: each says what a function of the program does, for every argument that its premises name. -/
import Derived.Test.YtikffmloeifkpaaGreatDoorM08
import Derived.Test.YtikffmloeifkpaaGreatDoorM07
/- Package grammar: all parts that call one another. -/
namespace Go.Proofs.YtikffmloeifkpaaGreatDoor
open Go.RowKit Go.Lib Go.Deep

theorem take_ge {T : List Tok} {r : Rd} (h : r.next + 1 < T.length) (ks : List Int) : r.next + 1 ≤ (r.take T ks).next := by
  unfold Rd.take
  split
  · exact Nat.le_refl _
  · have := fail_next T.length r 2 (tokAt T r.next).pos
    omega
theorem strict_stmt {T : List Tok} (he : Ends T) {S C B : Pr} (hS : Goes T S) (hC : Goes T C) (hB : Goes T B) (n : Nat) : Strict T n (stmtP T S C B) := fun r hd h => by
  have a1 := adv_take he (show r.next < T.length by omega) (show oneOf stmtOps 0 = false by decide)
  refine Nat.le_trans (take_ge h stmtOps) (Adv.ge (T := T) ?_)
  unfold stmtP
  dsimp only
  split
  · have a2 := adv_take he a1.lt (show oneOf [1] 0 = false by decide)
    exact a2.trans (goes_set he hS _ _ _ a2.lt)
  · split
    · exact goes_if he hC hB _ a1.lt
    · split
      · exact (hC _ a1.lt).trans (hB _ (hC _ a1.lt).lt)
      · split
        · exact goes_value he hS _ a1.lt
        · split
          · exact goes_value he hS _ a1.lt
          · split
            · exact goes_store he hS _ _ a1.lt
            · exact goes_set he hS _ _ _ a1.lt

/-- The function of a part. -/
def fnOf (s : Nat) : Nat := match s with
  | 0 => 362
  | 1 => 353
  | 2 => 335
  | 3 => 351
  | 4 => 334
  | 5 => 299
  | 6 => 192
  | _ => 246

theorem dm_less {T : List Tok} {n q p : Nat} {r : Rd} (h : Dm T (n + 1) q r) (hq : p < q) : Dm T n p r := by
  obtain ⟨h1, h2, h3⟩ := h
  exact ⟨by omega, h2, by omega⟩

theorem parse_any (T : List Tok) (he : Ends T) (g cap b : Nat) : ∀ n s, s ≤ 7 → Gives T g cap b (fnOf s) (parse T n s) (Dm T n s) := by
  intro n
  induction n with
  | zero => exact fun s _ r w _ hd => absurd hd.1 (Nat.not_lt_zero _)
  | succ n ih =>
    have G := fun s => goes_parse he n s
    have O := fun s => so_parse (T := T) n s
    have Oe := (O 2).1 (by decide)
    have Oc := (O 5).2.1 (by decide) (by decide)
    intro s hs r w h hd
    match s, hs with
    | 0, _ => exact factor_any T g cap b n _ _ r w (ih 2 (by decide)) (G 2) Oe (ih 0 (by decide)) (G 0) ((O 0).1 (by decide)) h hd
    | 1, _ => exact term_any T g cap b n _ r w (ih 0 (by decide)) (G 0) ((O 0).1 (by decide)) h (dm_less hd (by decide))
    | 2, _ => exact expr_any T g cap b n _ r w (ih 1 (by decide)) (G 1) ((O 1).1 (by decide)) h (dm_less hd (by decide))
    | 3, _ => exact comp_any T g cap b n _ r w (ih 2 (by decide)) (G 2) Oe h (dm_less hd (by decide))
    | 4, _ => exact conj_any T g cap b n _ r w (ih 3 (by decide)) (G 3) ((O 3).2.1 (by decide) (by decide)) h (dm_less hd (by decide))
    | 5, _ => exact cond_any T g cap b n _ r w (ih 4 (by decide)) (G 4) ((O 4).2.1 (by decide) (by decide)) h (dm_less hd (by decide))
    | 6, _ => 
      refine block_any T g cap b n _ r w (ih 7 (by decide)) (G 7) ((O 7).2.2.2 (by decide)) ?_ h hd
      cases n with
      | zero => exact fun r hd => absurd hd.1 (Nat.not_lt_zero _)
      | succ n => exact strict_stmt he (goes_parse he n 2) (goes_parse he n 5) (goes_parse he n 6) _
    | 7, _ => exact stmt_any T g cap b n _ _ _ r w (ih 2 (by decide)) (G 2) Oe (ih 5 (by decide)) (G 5) Oc (ih 6 (by decide)) (G 6) ((O 6).2.2.1 rfl) h hd
end Go.Proofs.YtikffmloeifkpaaGreatDoor

/- Package grammar: the list of names. -/
namespace Go.Proofs.YtikffmloeifkpaaGreatDoor
open Go.RowKit Go.Lib Go.Deep

/-- A parameter's value is its three cells. -/
def namT : Tr → Value
  | .nil => .agg #[]
  | .node _ _ a _ _ => nameVal a.name a.npos
/-- A name, of which it is not yet said what it means. -/
def SoN (S : Pr) : Prop := ∀ r, ∃ a x y, (S r).2 = mk a x y ∧ 19 ≤ a.tag ∧ (a.tag < 20 ∧ a.which = 0)
theorem Tryz.infoN : (Tryz.prog.info? 100).map (fun i => (i.zero, i.size, i.bytes)) = some (some (.agg #[.string (ByteArray.mk #[]), .int .i64 0, .int .i64 0]), 3, 32) := by kernel_rfl
theorem typ_N {t : Tr} {a : Nd} {x y : Tr} (h : er t = mk a x y) (h1 : 19 ≤ a.tag) (h2 : a.tag < 20 ∧ a.which = 0) : elemCells t = [.string a.name, .int .i64 a.npos, .int .i64 0] ∧ rowTyp (cons t .nil) = 100 ∧ ∃ b o a l q, t = .node b o a l q ∧ (a.tag = 19 ↔ 3 = 3) := by
  obtain ⟨b, o, l, r, rfl, _, _⟩ := node_of h
  have h3 : a.tag = 19 := by omega
  exact ⟨(if_pos h3).trans (by rw [h2.2]), if_pos h3, b, o, a, l, r, rfl, ⟨fun _ => rfl, fun _ => h3⟩⟩
theorem three_of {t : Tr} (h : ∃ b o a l q, t = BT.node b o a l q ∧ (a.tag = 19 ↔ True)) : ∃ b o a l q, t = BT.node b o a l q ∧ (a.tag = 19 ↔ 3 = 3) := by
  obtain ⟨b, o, a, l, q, hx, hy⟩ := h
  exact ⟨b, o, a, l, q, hx, by simpa using hy⟩
theorem val_nam {t : Tr} {a : Nd} {x y : Tr} (h : er t = mk a x y) : namT t = .agg #[.string a.name, .int .i64 a.npos, .int .i64 0] := by
  obtain ⟨b, o, l, r, rfl, _, _⟩ := node_of h
  rfl

set_option maxRecDepth 100000 in
set_option maxHeartbeats 4000000 in
theorem listN_any (T : List Tok) (g cap b f n qr : Nat) (S : Pr) (r : Rd) (w : World) (hf : ∀ args wx, (callFunc f args).run Tryz.prog wx = .ok (.enter f args) wx)
    (hS : GivesV T g cap b f S (Dm T n qr) namT) (hG : Goes T S) (hO : SoN S) (h : RdW T g cap b r w) (hd : Dm T n qr r) :
    Calls Tryz.prog 187 #[.pointer (some ⟨b, 0, none⟩), fv f b] w (Post T g cap b w (listP T S n r) valT) := by
  have HS : Hid (GivesV T g cap b f S (Dm T n qr) namT) := hS
  have HG : Hid (Goes T S) := hG
  have HO : Hid (SoN S) := hO
  clear hS hG hO
  obtain ⟨i0, hi0, hz0, hz1, hz2⟩ := info_parts Tryz.infoN
  unfold fv
  go_enter Tryz.func187, Tryz.ntmps187
  go_wp2_with fail
  refine (HS.out r w h hd).mono ?_
  rintro e w1 ⟨t, rfl, ht, it, h1, e1⟩
  have HT : Hid (er t = (S r).2) := ht
  clear ht
  have a1 := HG.out r h.lt
  have hd1 := hd.adv a1
  have hfew := h.few
  obtain ⟨sa, sx, sy, hse, hs1, hs2⟩ := HO.out r
  obtain ⟨hec, hrt, hnd⟩ := typ_N (HT.out.trans hse) hs1 hs2
  have hv := val_nam (HT.out.trans hse)
  have HV : Hid (namT t = .agg #[.string sa.name, .int .i64 sa.npos, .int .i64 0]) := hv
  have HE : Hid (elemCells t = [.string sa.name, .int .i64 sa.npos, .int .i64 0]) := hec
  have HRT : Hid (rowTyp (cons t .nil) = 100) := hrt
  rw [hv]
  clear hv hec hrt
  have own1 : (w1.alloc (.cells #[.string sa.name, .int .i64 sa.npos, .int .i64 0] 100)).ownsRow w.heap.size 100 3 (.slice (some ⟨w1.heap.size, 0, none⟩) 1 1) 1 [.string sa.name, .int .i64 sa.npos, .int .i64 0] := ownsRow_one e1.size rfl
  go_wp2_with fail
  go_loopg [5] n (fun m v wr => ∃ (rc : Rd) (acc : Tr), wr.ownsRow w.heap.size 100 3 v (lenL acc) (rowCells acc) ∧ acc ≠ .nil ∧ rowTyp acc = 100 ∧ Sized 3 acc ∧ New w.heap.size wr acc ∧ (∀ k, v.ownBlock = some k → NotIn k acc) ∧ RdW T g cap b rc wr ∧ Ex b w wr ∧ Dm T n qr rc ∧ T.length - rc.next ≤ m ∧ lenL acc ≤ rc.next + 1 ∧
      app (er acc) (listL T S m rc).2 = cons (S r).2 (listL T S n (S r).1).2 ∧ (listL T S m rc).1 = (listL T S n (S r).1).1)
  case atStart =>
    refine ⟨_, cons t .nil, ?_, ?_, HRT.out, ⟨rfl, three_of hnd, by rw [HE.out]; rfl, trivial⟩, (it.ex h1 ((Ex.refl b w1).alloc _)).cons (New.nil _ _), ?_, h1.alloc _, e1.alloc _, hd1, ?_, ?_, ?_, rfl⟩
    · show World.ownsRow _ _ _ _ _ 1 (elemCells t ++ [])
      rw [HE.out]
      exact own1
    · intro e; cases e
    · intro k hk
      simp only [Value.ownBlock, Option.some.injEq] at hk
      subst hk
      exact ⟨it.out (Nat.le_refl _), trivial, fun p => absurd rfl p.1⟩
    · have := hd1.1; omega
    · show 0 + 1 ≤ _; omega
    · show cons (er t) _ = _
      rw [HT.out]
      rfl
  case round =>
    obtain ⟨rc, acc, own, hnn, hrt, hsz, iac, hni, hc, ec, hdc, hm, hlen, hrun, hrun2⟩ := hrel
    have HR : Hid (app (er acc) (listL T S gk rc).2 = cons (S r).2 (listL T S n (S r).1).2) := hrun
    have HR2 : Hid ((listL T S gk rc).1 = (listL T S n (S r).1).1) := hrun2
    have HRT2 : Hid (rowTyp acc = 100) := hrt
    clear hrun hrun2 hrt own1
    obtain ⟨gg, cp, hvv⟩ := slice_own own (len_pos hnn)
    subst hvv
    have hc2 := hc.alloc (.cells #[.int .i64 18] 141)
    have e2 := (Ex.refl b wr).alloc (.cells #[.int .i64 18] 141)
    have ia2 := iac.ex hc e2
    have own2 := own.alloc (.cells #[.int .i64 18] 141)
    have hk2 := kinds_new wr [18] #[.int .i64 18] rfl
    go_wp2_with fail
    refine (skips_any T g cap b rc wr.heap.size 1 [18] _ hc2 hk2 (by decide) (by decide)).mono ?_
    rintro e W3 ⟨rfl, hc3, e3⟩
    have ia3 := ia2.ex hc2 e3
    have own3 := ownsRow_ex own2 hc2.blk (by decide) e3
    have ec3 := (ec.trans e2).trans e3
    have hlt2 := hc.lt
    have a3 := adv_skips hc.ends hlt2 (show oneOf [18] 0 = false by decide)
    have hd3 := hdc.adv a3
    cases hs : stands T rc [18]
    · have hsk : rc.skips T [18] = rc := by unfold Rd.skips; rw [hs]; rfl
      rw [hsk] at hc3
      have hend : listL T S gk rc = (rc, .nil) := by
        cases gk with
        | zero => rfl
        | succ gk => show (if _ then _ else _) = _; rw [if_neg (by rw [hs]; decide)]
      have h2 := HR.out
      have h3 := HR2.out
      rw [hend] at h2 h3
      rw [app_nil] at h2
      have fin : Post T g cap b w (listP T S n r) valT (.returned (.slice (some ⟨gg, 0, none⟩) (lenL acc) cp)) W3 := by
        refine ⟨.node gg cp { tag := 20 } acc .nil, rfl, ?_, New.listed hnn hsz ia3 (by rw [HRT2.out]; exact own3), ?_, ec3⟩
        · show BT.node 0 0 _ (er acc) .nil = listed (cons (S r).2 (listL T S n (S r).1).2)
          rw [h2]; rfl
        · show RdW T g cap b (listL T S n (S r).1).1 W3
          rw [← h3]; exact hc3
      clear h2 h3 hend hsk HR HR2
      go_wp2
      go_ret
      exact fin
    · have HN : Hid ((rc.skips T [18]).next = rc.next + 1) := stands_skip hs
      go_wp2_with fail
      refine (HS.out _ _ hc3 hd3).mono ?_
      rintro e W5 ⟨t5, rfl, ht5, it5, h5, e5⟩
      have HT5 : Hid (er t5 = (S (rc.skips T [18])).2) := ht5
      obtain ⟨ya, yx, yy, hye, hy1, hy2⟩ := HO.out (rc.skips T [18])
      obtain ⟨hec5, _, hnd5⟩ := typ_N (HT5.out.trans hye) hy1 hy2
      have hv5 := val_nam (HT5.out.trans hye)
      have HV5 : Hid (namT t5 = .agg #[.string ya.name, .int .i64 ya.npos, .int .i64 0]) := hv5
      have HE5 : Hid (elemCells t5 = [.string ya.name, .int .i64 ya.npos, .int .i64 0]) := hec5
      rw [hv5]
      clear hv5 hye ht5 hec5
      obtain ⟨m, rfl⟩ : ∃ m, gk = m + 1 := ⟨gk - 1, by omega⟩
      have a5 := a3.trans (HG.out _ a3.lt)
      have hd5 := hdc.adv a5
      have own5 := ownsRow_ex own3 hc3.blk (by decide) e5
      have ia5 := ia3.ex hc3 e5
      have ec5 := ec3.trans e5
      have hw5 := ec5.size
      have hnx := HN.out
      have hge := (HG.out _ a3.lt).ge
      have hltS := (HG.out _ a3.lt).lt
      have hl4 : lenL acc ≤ 5000 := by omega
      go_wp2_with (at_builtin; refine wpList_append_lies _ rfl _ _ 101 rfl w.heap.size 100 i0 _ 3 32 Tryz.underlying101 hi0 hz0 hz1 hz2 rfl (by omega) (.slice (some ⟨gg, 0, none⟩) (lenL acc) cp) (lenL acc) (rowCells acc) rfl (own5.alloc _) ⟨W5.heap.size, 0, none⟩ 1 1 [.string ya.name, .int .i64 ya.npos, .int .i64 0] rfl rfl (World.news_of_block (cs := #[.string ya.name, .int .i64 ya.npos, .int .i64 0]) (t := 100) (fr := (0, 0)) (heap_alloc_new W5 _)) (by simp [Value.oneCell']) (by omega) (by unfold maxLen; omega) (by omega) (by simp; omega) (W5.heap.size + 1) (by simp) ?_; intro g6 cp6 W6 own6 grow6 hat6 hlt6)
      have e6 : Ex b W5 (W5.alloc (.cells #[.string ya.name, .int .i64 ya.npos, .int .i64 0] 100)) := (Ex.refl b W5).alloc _
      have h6 := h5.alloc (.cells #[.string ya.name, .int .i64 ya.npos, .int .i64 0] 100)
      have ia6 := ia5.ex h5 e6
      have ib6 := it5.ex h5 e6
      have rne : ∀ k, Value.ownBlock (.slice (some ⟨gg, 0, none⟩) (lenL acc) cp) = some k → k ≠ b ∧ k ≠ g := by
        intro k hk
        rcases (own5.alloc (.cells #[.string ya.name, .int .i64 ya.npos, .int .i64 0] 100)).2 with ⟨hx, _⟩ | ⟨g', cap', cur, hv, _, hh, _⟩
        · cases hx
        · simp only [Value.slice.injEq, Option.some.injEq, Addr.mk.injEq] at hv
          obtain ⟨⟨rfl, _, _⟩, _, _⟩ := hv
          simp only [Value.ownBlock, Option.some.injEq] at hk
          subst hk
          refine ⟨fun e1 => ?_, fun e1 => ?_⟩
          · rw [e1, h6.blk] at hh
            simp at hh
          · obtain ⟨cur2, hc9, _⟩ := h6.row
            rw [e1, hc9] at hh
            simp at hh
      have h7 : RdW T g cap b (S (rc.skips T [18])).1 W6 := h6.move (grow6.block b h6.size (fun e1 => (rne b e1.symm).1 rfl)) (grow6.block g h6.gsize (fun e1 => (rne g e1.symm).2 rfl))
      have e7 : Ex b w W6 := Ex.grown (ec5.alloc _) grow6 (fun k hk => (own.lt k hk).1)
      have nig : NotIn gg acc := hni gg rfl
      have hggl : gg < W3.heap.size := (own3.lt gg rfl).2
      have hbut : ∀ i, i < (W5.alloc (.cells #[.string ya.name, .int .i64 ya.npos, .int .i64 0] 100)).heap.size → i ≠ gg → W6.heap[i]? = (W5.alloc (.cells #[.string ya.name, .int .i64 ya.npos, .int .i64 0] 100)).heap[i]? := fun i hi hne => grow6.block i hi (fun e1 => hne (Option.some.inj e1))
      have ia7 : New w.heap.size W6 acc := ia6.but hbut nig
      have nib : NotIn gg t5 := ib6.fresh.notIn hggl
      have ib7 : New w.heap.size W6 t5 := (ib6.but hbut nib).mono ec3.size
      have nis : NotIn g6 (snoc acc t5) := by
        rcases hat6 with hx | hx
        · simp only [Value.ownBlock, Option.some.injEq] at hx
          subst hx
          exact notIn_snoc nig nib
        · subst hx
          have hs5 : (W5.alloc (.cells #[.string ya.name, .int .i64 ya.npos, .int .i64 0] 100)).heap.size = W5.heap.size + 1 := by simp
          exact notIn_snoc (ia6.out (by omega)) (ib6.out (by omega))
      have fin : ∃ (rc : Rd) (acc' : Tr), W6.ownsRow w.heap.size 100 3 (.slice (some ⟨g6, 0, none⟩) (lenL acc + 1) cp6) (lenL acc') (rowCells acc') ∧ acc' ≠ .nil ∧ rowTyp acc' = 100 ∧ Sized 3 acc' ∧ New w.heap.size W6 acc' ∧
          (∀ k, (Value.slice (some ⟨g6, 0, none⟩) (lenL acc + 1) cp6).ownBlock = some k → NotIn k acc') ∧ RdW T g cap b rc W6 ∧ Ex b w W6 ∧ Dm T n qr rc ∧ T.length - rc.next ≤ m ∧ lenL acc' ≤ rc.next + 1 ∧
          app (er acc') (listL T S m rc).2 = cons (S r).2 (listL T S n (S r).1).2 ∧ (listL T S m rc).1 = (listL T S n (S r).1).1 := by
        refine ⟨_, snoc acc t5, ?_, snoc_ne _ _, ?_, ?_, New.snoc hsz ia7 ib7, ?_, h7, e7, hd5, ?_, ?_, ?_, ?_⟩
        · rw [lenL_snoc, rowCells_snoc, HE5.out]; exact own6
        · rw [rowTyp_snoc hnn]; exact HRT2.out
        · exact sized_snoc hsz (three_of hnd5) (by rw [HE5.out]; rfl)
        · intro k hk
          simp only [Value.ownBlock, Option.some.injEq] at hk
          subst hk
          exact nis
        · omega
        · rw [lenL_snoc]; omega
        · have h2 := HR.out
          have h3 : listL T S (m + 1) rc = ((listL T S m (S (rc.skips T [18])).1).1, cons (S (rc.skips T [18])).2 (listL T S m (S (rc.skips T [18])).1).2) := by
            show (if _ then _ else _) = _; rw [if_pos hs]
          rw [h3] at h2
          rw [er_snoc, app_snoc, HT5.out]
          exact h2
        · have h2 := HR2.out
          have h3 : listL T S (m + 1) rc = ((listL T S m (S (rc.skips T [18])).1).1, cons (S (rc.skips T [18])).2 (listL T S m (S (rc.skips T [18])).1).2) := by
            show (if _ then _ else _) = _; rw [if_pos hs]
          rw [h3] at h2
          exact h2
      clear HR HR2 HS HG HO HT HV HE HN HT5 HV5 HE5 HRT HRT2 hat6 ia7 ib7 nis nib nig ia6 ib6 ia5 ia3 ia2 it5 own6 own5 own3 own2 own h7 e7 h6 e6 hsz iac hni hc ec hdc rne hbut grow6 hd5 hd3 a5 a3
      go_wp2
      go_roundg m
      case rel => exact fin
      case measure => omega
end Go.Proofs.YtikffmloeifkpaaGreatDoor

/- Package grammar: an array; a parameter. -/
namespace Go.Proofs.YtikffmloeifkpaaGreatDoor
open Go.RowKit Go.Lib Go.Deep

set_option maxRecDepth 100000 in
set_option maxHeartbeats 4000000 in
theorem array_any (T : List Tok) (g cap b : Nat) (r : Rd) (w : World) (h : RdW T g cap b r w) :
    Calls Tryz.prog 125 #[.pointer (some ⟨b, 0, none⟩)] w (Post T g cap b w (arrayP T r) ptrT) := by
  have hends := h.ends
  have a1 := adv_take h.ends h.lt (show oneOf [1] 0 = false by decide)
  have a2 := a1.trans (adv_take h.ends a1.lt (show oneOf [2] 0 = false by decide))
  go_enter Tryz.func125, Tryz.ntmps125
  go_wp2_with fail
  refine (name_any T g cap b r w h).mono ?_
  rintro e W1 ⟨rfl, h1, e1⟩
  generalize hq : took T r [1] = q at *
  have HQ : Hid (took T r [1] = q) := hq
  clear hq
  unfold nameVal
  have z2 : (W1.alloc (.cells #[.string q.text, .int .i64 q.pos, .int .i64 0] 100)).heap[W1.heap.size]? = some (.cells #[.string q.text, .int .i64 q.pos, .int .i64 0] 100 (0, 0)) := heap_alloc_new W1 _
  have s2 : (W1.alloc (.cells #[.string q.text, .int .i64 q.pos, .int .i64 0] 100)).heap.size = W1.heap.size + 1 := by simp
  have k2 := kinds_new (W1.alloc (.cells #[.string q.text, .int .i64 q.pos, .int .i64 0] 100)) [2] #[.int .i64 2] rfl
  rw [s2] at k2
  have h2 := (h1.alloc (.cells #[.string q.text, .int .i64 q.pos, .int .i64 0] 100)).alloc (.cells #[.int .i64 2] 141)
  have e2 := (e1.alloc (.cells #[.string q.text, .int .i64 q.pos, .int .i64 0] 100)).alloc (.cells #[.int .i64 2] 141)
  have n2 : ((W1.alloc (.cells #[.string q.text, .int .i64 q.pos, .int .i64 0] 100)).alloc (.cells #[.int .i64 2] 141)).heap[W1.heap.size]? = some (.cells #[.string q.text, .int .i64 q.pos, .int .i64 0] 100 (0, 0)) :=
    (Below.heap_alloc _ _ _ (by rw [s2]; omega)).trans z2
  have hne : W1.heap.size ≠ b := by have := h1.size; omega
  go_wp2_with fail
  generalize (W1.alloc (.cells #[.string q.text, .int .i64 q.pos, .int .i64 0] 100)).alloc (.cells #[.int .i64 2] 141) = W2 at *
  refine (take_any T g cap b _ (W1.heap.size + 1) 1 [2] W2 h2 k2 (by decide) (by decide)).mono ?_
  rintro e W3 ⟨rfl, h3, e3⟩
  have hv3 := took_vals h2 [2]
  have n3 := (e3.block W1.heap.size (Array.getElem?_eq_some_iff.1 n2).1 hne).trans n2
  generalize hp : took T (r.take T [1]) [2] = p at *
  have HP : Hid (took T (r.take T [1]) [2] = p) := hp
  clear hp
  rw [Tok.val_eq]
  have z4 : (W3.alloc (.cells #[.int .i64 p.kind, .int .i64 p.pos, .string p.text, .int .i64 p.value] 143)).heap[W3.heap.size]? = some (.cells #[.int .i64 p.kind, .int .i64 p.pos, .string p.text, .int .i64 p.value] 143 (0, 0)) := heap_alloc_new W3 _
  have s4 : (W3.alloc (.cells #[.int .i64 p.kind, .int .i64 p.pos, .string p.text, .int .i64 p.value] 143)).heap.size = W3.heap.size + 1 := by simp
  have k4 := kinds_new (W3.alloc (.cells #[.int .i64 p.kind, .int .i64 p.pos, .string p.text, .int .i64 p.value] 143)) [19] #[.int .i64 19] rfl
  rw [s4] at k4
  have l3 : W1.heap.size < W3.heap.size := (Array.getElem?_eq_some_iff.1 n3).1
  have h4 := (h3.alloc (.cells #[.int .i64 p.kind, .int .i64 p.pos, .string p.text, .int .i64 p.value] 143)).alloc (.cells #[.int .i64 19] 141)
  have e4 := ((e2.trans e3).alloc (.cells #[.int .i64 p.kind, .int .i64 p.pos, .string p.text, .int .i64 p.value] 143)).alloc (.cells #[.int .i64 19] 141)
  have n4 : ((W3.alloc (.cells #[.int .i64 p.kind, .int .i64 p.pos, .string p.text, .int .i64 p.value] 143)).alloc (.cells #[.int .i64 19] 141)).heap[W1.heap.size]? = some (.cells #[.string q.text, .int .i64 q.pos, .int .i64 0] 100 (0, 0)) :=
    (Below.heap_alloc _ _ _ (by rw [s4]; omega)).trans ((Below.heap_alloc _ _ _ l3).trans n3)
  have m4 : ((W3.alloc (.cells #[.int .i64 p.kind, .int .i64 p.pos, .string p.text, .int .i64 p.value] 143)).alloc (.cells #[.int .i64 19] 141)).heap[W3.heap.size]? = some (.cells #[.int .i64 p.kind, .int .i64 p.pos, .string p.text, .int .i64 p.value] 143 (0, 0)) :=
    (Below.heap_alloc _ _ _ (by rw [s4]; omega)).trans z4
  have hnw : W3.heap.size ≠ b := by have := h3.size; omega
  clear h1 e1 h2 e2 e3
  go_wp2_with fail
  generalize (W3.alloc (.cells #[.int .i64 p.kind, .int .i64 p.pos, .string p.text, .int .i64 p.value] 143)).alloc (.cells #[.int .i64 19] 141) = W4 at *
  refine (take_any T g cap b _ (W3.heap.size + 1) 1 [19] W4 h4 k4 (by decide) (by decide)).mono ?_
  rintro e W5 ⟨rfl, h5, e5⟩
  have n5 := (e5.block W1.heap.size (Array.getElem?_eq_some_iff.1 n4).1 hne).trans n4
  have m5 := (e5.block W3.heap.size (Array.getElem?_eq_some_iff.1 m4).1 hnw).trans m4
  obtain ⟨x0, x1, x2, _⟩ := three_cells n5
  obtain ⟨y0, y1, y2, y3, _⟩ := four_cells m5
  have ee := e4.trans e5
  clear n2 n3 n4 m4 z2 z4 k2 k4 h3 h4 e4 e5 n5 m5
  go_wp2
  go_ret
  refine ⟨.node W5.heap.size 0 { tag := 16, name := q.text, npos := q.pos, val := p.value, pos := p.pos } .nil .nil, rfl, ?_, New.node (New.nil _ _) (New.nil _ _) (fun _ => ee.size) (by simp) ?_, h5.alloc _, ee.alloc _⟩
  · show mk _ .nil .nil = (arrayP T r).2
    unfold arrayP
    dsimp only
    rw [HQ.out, HP.out]
  · exact ⟨_, heap_alloc_new W5 _, ⟨rfl, rfl, rfl⟩, rfl, rfl⟩

theorem param_any (T : List Tok) (g cap b n qr : Nat) : GivesV T g cap b 185 (paramP T) (Dm T n qr) namT := fun r w h _ =>
  (name_any T g cap b r w h).mono fun _ _ ⟨h1, h2, h3⟩ => ⟨.node 0 0 { tag := 19, name := (took T r [1]).text, npos := (took T r [1]).pos } .nil .nil, h1, rfl, New.node (New.nil _ _) (New.nil _ _) (fun p => absurd rfl p.2.2) (by simp) trivial, h2, h3⟩
theorem goes_param {T : List Tok} (he : Ends T) : Goes T (paramP T) := fun _ h => adv_take he h (by decide)
theorem so_param {T : List Tok} : SoN (paramP T) := fun _ => ⟨_, _, _, rfl, by simp, by simp⟩
end Go.Proofs.YtikffmloeifkpaaGreatDoor

/- Package grammar: a function. -/
namespace Go.Proofs.YtikffmloeifkpaaGreatDoor
open Go.RowKit Go.Lib Go.Deep

def paramsP (T : List Tok) (n : Nat) : Pr := fun r => if stands T r [1] then listP T (paramP T) n r else (r, .nil)
def wheresP (T : List Tok) (n : Nat) : Pr := fun r => if stands T r [5] then listP T (relP T) n (r.skips T [5]) else (r, .nil)
theorem functionP_eq (T : List Tok) (B : Pr) (n : Nat) (r : Rd) : functionP T B n r =
    ((B (wheresP T n ((paramsP T n ((r.take T [1]).opened T [12])).1.shut T 13)).1).1, mk { tag := 17, name := (took T r [1]).text, npos := (took T r [1]).pos } (paramsP T n ((r.take T [1]).opened T [12])).2
      (mk { tag := 18 } (wheresP T n ((paramsP T n ((r.take T [1]).opened T [12])).1.shut T 13)).2 (B (wheresP T n ((paramsP T n ((r.take T [1]).opened T [12])).1.shut T 13)).1).2)) := rfl
theorem goes_params {T : List Tok} (he : Ends T) (n : Nat) : Goes T (paramsP T n) := fun r h => by
  unfold paramsP
  split
  · exact goes_list he (goes_param he) n r h
  · exact Adv.refl h
theorem goes_wheres {T : List Tok} (he : Ends T) (n : Nat) : Goes T (wheresP T n) := fun r h => by
  unfold wheresP
  split
  · have a := adv_skips he h (show oneOf [5] 0 = false by decide)
    exact a.trans (goes_list he (goes_rel he) n _ a.lt)
  · exact Adv.refl h
theorem so_rel {T : List Tok} : So 7 8 (relP T) := fun r => ⟨_, _, _, rfl, by simp, by simp⟩
theorem sol_list {T : List Tok} (S : Pr) (n : Nat) : SoL (listP T S n) := fun _ => .inr ⟨_, _, rfl, rfl⟩
theorem seven_cells {w : World} {k : Nat} {a0 a1 a2 a3 a4 a5 a6 : Value} {t : TypeId} (h : w.heap[k]? = some (.cells #[a0, a1, a2, a3, a4, a5, a6] t (0, 0))) :
    w.cell? ⟨k, 3, none⟩ = some a3 ∧ w.cell? ⟨k, 4, none⟩ = some a4 ∧ w.cell? ⟨k, 5, none⟩ = some a5 ∧ (∀ o, w.frozen? ⟨k, o, none⟩ = false) :=
  ⟨cell_of_row _ _ _ _ _ _ h, cell_of_row _ _ _ _ _ _ h, cell_of_row _ _ _ _ _ _ h, fun o => by simp [World.frozen?, h]⟩

set_option maxRecDepth 100000 in
set_option maxHeartbeats 8000000 in
theorem function_any (T : List Tok) (g cap b n : Nat) (B : Pr) (r : Rd) (w : World) (hB : Gives T g cap b 192 B (Dm T n 6)) (hOB : SoL B) (h : RdW T g cap b r w) (hd : Dm T n 6 r) (hd2 : r.nest + 1 + n ≤ 1000000) :
    Calls Tryz.prog 126 #[.pointer (some ⟨b, 0, none⟩)] w (Post T g cap b w (functionP T B n r) ptrT) := by
  have HB : Hid (Gives T g cap b 192 B (Dm T n 6)) := hB
  have HOB : Hid (SoL B) := hOB
  have hmf : ∀ (fn : Fn) (first cap : Array Value) (w : World), (Instr.makeFunc fn first cap).run Tryz.prog w = .ok (.func fn first cap) w := fun _ _ _ _ => rfl
  have hends := h.ends
  have a1 := adv_take h.ends h.lt (show oneOf [1] 0 = false by decide)
  obtain ⟨o1, o2, o3⟩ := opened_next h.ends a1.lt (show oneOf [12] 0 = false by decide)
  have hn1 := a1.nest
  have hg1 := a1.ge
  obtain ⟨d1, d2, d3⟩ := hd
  have hdr1 : Dm T n 0 ((r.take T [1]).opened T [12]) := ⟨by omega, by omega, by omega⟩
  have ap := goes_params hends n _ o2
  have apn := ap.nest
  have asx := adv_shut hends o1 o3 ap (show oneOf [13] 0 = false by decide)
  have asg := asx.ge
  have asn := asx.nest
  have hdr2 : ∀ r', Adv T ((paramsP T n ((r.take T [1]).opened T [12])).1.shut T 13) r' → ∀ q, q ≤ 6 → Dm T n q r' := fun r' a q hq => by
    have x1 := a.ge
    have x2 := a.nest
    exact ⟨by omega, by omega, by omega⟩
  have aw := goes_wheres hends n _ asx.lt
  have hnt : 0 ≤ (r.take T [1]).nest ∧ (r.take T [1]).nest ≤ 1000000 := ⟨by omega, by omega⟩
  have hnp : 0 ≤ (paramsP T n ((r.take T [1]).opened T [12])).1.nest ∧ (paramsP T n ((r.take T [1]).opened T [12])).1.nest ≤ 1000000 := ⟨by omega, by omega⟩
  have HF : Hid (functionP T B n r = _) := functionP_eq T B n r
  have HD2 : Hid (∀ r', Adv T ((paramsP T n ((r.take T [1]).opened T [12])).1.shut T 13) r' → ∀ q, q ≤ 6 → Dm T n q r') := hdr2
  clear hB hOB hdr2 o1 o2 o3 d1 d2 d3 hd2 hn1 hg1 apn asg asn
  go_enter Tryz.func126, Tryz.ntmps126
  go_wp2_with fail
  refine (name_any T g cap b r w h).mono ?_
  rintro e W1 ⟨rfl, h1, e1⟩
  generalize hq : took T r [1] = q at *
  have HQ : Hid (took T r [1] = q) := hq
  clear hq
  unfold nameVal
  have z2 : (W1.alloc (.cells #[.string q.text, .int .i64 q.pos, .int .i64 0, .slice none 0 0, .slice none 0 0, .slice none 0 0, .int .i64 0] 105)).heap[W1.heap.size]? = some (.cells #[.string q.text, .int .i64 q.pos, .int .i64 0, .slice none 0 0, .slice none 0 0, .slice none 0 0, .int .i64 0] 105 (0, 0)) := heap_alloc_new W1 _
  have s2 : (W1.alloc (.cells #[.string q.text, .int .i64 q.pos, .int .i64 0, .slice none 0 0, .slice none 0 0, .slice none 0 0, .int .i64 0] 105)).heap.size = W1.heap.size + 1 := by simp
  have k2 := kinds_new (W1.alloc (.cells #[.string q.text, .int .i64 q.pos, .int .i64 0, .slice none 0 0, .slice none 0 0, .slice none 0 0, .int .i64 0] 105)) [12] #[.int .i64 12] rfl
  rw [s2] at k2
  have h2 := (h1.alloc (.cells #[.string q.text, .int .i64 q.pos, .int .i64 0, .slice none 0 0, .slice none 0 0, .slice none 0 0, .int .i64 0] 105)).alloc (.cells #[.int .i64 12] 141)
  have e2 := (e1.alloc (.cells #[.string q.text, .int .i64 q.pos, .int .i64 0, .slice none 0 0, .slice none 0 0, .slice none 0 0, .int .i64 0] 105)).alloc (.cells #[.int .i64 12] 141)
  have n2 : ((W1.alloc (.cells #[.string q.text, .int .i64 q.pos, .int .i64 0, .slice none 0 0, .slice none 0 0, .slice none 0 0, .int .i64 0] 105)).alloc (.cells #[.int .i64 12] 141)).heap[W1.heap.size]? = some (.cells #[.string q.text, .int .i64 q.pos, .int .i64 0, .slice none 0 0, .slice none 0 0, .slice none 0 0, .int .i64 0] 105 (0, 0)) :=
    (Below.heap_alloc _ _ _ (by rw [s2]; omega)).trans z2
  have hne : W1.heap.size ≠ b := by have := h1.size; omega
  have hH : w.heap.size ≤ W1.heap.size := e1.size
  go_wp2_with fail
  generalize (W1.alloc (.cells #[.string q.text, .int .i64 q.pos, .int .i64 0, .slice none 0 0, .slice none 0 0, .slice none 0 0, .int .i64 0] 105)).alloc (.cells #[.int .i64 12] 141) = W2 at *
  refine (open_any T g cap b _ (W1.heap.size + 1) 1 [12] W2 h2 k2 (by decide) (by decide) hnt).mono ?_
  rintro e W3 ⟨rfl, h3, e3⟩
  have n3 := (e3.block W1.heap.size (Array.getElem?_eq_some_iff.1 n2).1 hne).trans n2
  have l3 : W1.heap.size < W3.heap.size := (Array.getElem?_eq_some_iff.1 n3).1
  have k4 := kinds_new W3 [1] #[.int .i64 1] rfl
  have h4 := h3.alloc (.cells #[.int .i64 1] 141)
  have e4 := (e2.trans e3).alloc (.cells #[.int .i64 1] 141)
  have n4 : (W3.alloc (.cells #[.int .i64 1] 141)).heap[W1.heap.size]? = some (.cells #[.string q.text, .int .i64 q.pos, .int .i64 0, .slice none 0 0, .slice none 0 0, .slice none 0 0, .int .i64 0] 105 (0, 0)) := (Below.heap_alloc _ _ _ l3).trans n3
  clear z2 s2 k2 h2 e2 n2 h3 e3 n3 l3
  go_wp2_with fail
  refine (stands_any T g cap b _ W3.heap.size 1 [1] _ h4 k4 (by decide)).mono ?_
  rintro e W5 ⟨rfl, nn, rfl⟩
  have h5 := h4.drewN nn
  have e5 := e4.drewN nn
  have n5 : ((W3.alloc (.cells #[.int .i64 1] 141)).drewN nn).heap[W1.heap.size]? = some (.cells #[.string q.text, .int .i64 q.pos, .int .i64 0, .slice none 0 0, .slice none 0 0, .slice none 0 0, .int .i64 0] 105 (0, 0)) := n4
  have HP : Hid (paramsP T n ((r.take T [1]).opened T [12]) = if stands T ((r.take T [1]).opened T [12]) [1] then listP T (paramP T) n ((r.take T [1]).opened T [12]) else ((r.take T [1]).opened T [12], .nil)) := rfl
  clear k4 h4 e4 n4 h1 e1
  generalize (W3.alloc (.cells #[.int .i64 1] 141)).drewN nn = W5 at *
  cases hs : stands T ((r.take T [1]).opened T [12]) [1]
  · have hP1 : paramsP T n ((r.take T [1]).opened T [12]) = ((r.take T [1]).opened T [12], .nil) := by rw [HP.out, hs]; rfl
    have h6 : RdW T g cap b (paramsP T n ((r.take T [1]).opened T [12])).1 W5 := by rw [hP1]; exact h5
    obtain ⟨tp, htp⟩ : ∃ tp : Tr, tp = .nil := ⟨_, rfl⟩
    have itp : New w.heap.size W5 tp := by rw [htp]; exact New.nil _ _
    have otp : NotIn W1.heap.size tp := by rw [htp]; trivial
    obtain ⟨ap', lp, cp', hvp⟩ : ∃ ao n cp, valT tp = .slice ao n cp ∧ (Value.slice ao n cp = .slice none 0 0) := ⟨none, 0, 0, by rw [htp]; rfl, rfl⟩
    obtain ⟨hvp, hvn⟩ := hvp
    have n6 : W5.heap[W1.heap.size]? = some (.cells #[.string q.text, .int .i64 q.pos, .int .i64 0, .slice ap' lp cp', .slice none 0 0, .slice none 0 0, .int .i64 0] 105 (0, 0)) := by rw [hvn]; exact n5
    replace htp : er tp = (paramsP T n ((r.take T [1]).opened T [12])).2 := by rw [htp, hP1]; rfl
    have e6 := e5
    clear n5 e5 h5 hP1 HP hvn
    have HTP : Hid (er tp = (paramsP T n ((r.take T [1]).opened T [12])).2) := htp
    have HVP : Hid (valT tp = .slice ap' lp cp') := hvp
    clear htp hvp hs
    go_wp2_with fail
    refine (shut_any T g cap b _ 13 _ h6 (by decide) hnp).mono ?_
    rintro e W7 ⟨rfl, h7, e7⟩
    have n7 := (e7.block W1.heap.size (Array.getElem?_eq_some_iff.1 n6).1 hne).trans n6
    have itp7 := itp.ex h6 e7
    have l7 : W1.heap.size < W7.heap.size := (Array.getElem?_eq_some_iff.1 n7).1
    have k8 := kinds_new W7 [5] #[.int .i64 5] rfl
    have h8 := h7.alloc (.cells #[.int .i64 5] 141)
    have e8 := (Ex.refl b W7).alloc (.cells #[.int .i64 5] 141)
    have ee8 := (e6.trans e7).trans e8
    have itp8 := itp7.ex h7 e8
    have n8 := (e8.block W1.heap.size l7 hne).trans n7
    clear h6 n6 e6 itp h7 n7 itp7 l7 e7 e8
    go_wp2_with fail
    generalize W7.alloc (.cells #[.int .i64 5] 141) = W8 at *
    refine (skips_any T g cap b _ W7.heap.size 1 [5] W8 h8 k8 (by decide) (by decide)).mono ?_
    rintro e W9 ⟨rfl, h9, e9⟩
    have n9 := (e9.block W1.heap.size (Array.getElem?_eq_some_iff.1 n8).1 hne).trans n8
    have itp9 := itp8.ex h8 e9
    have ee9 := ee8.trans e9
    have hW : Hid (wheresP T n ((paramsP T n ((r.take T [1]).opened T [12])).1.shut T 13) = if stands T ((paramsP T n ((r.take T [1]).opened T [12])).1.shut T 13) [5] then listP T (relP T) n (((paramsP T n ((r.take T [1]).opened T [12])).1.shut T 13).skips T [5]) else ((paramsP T n ((r.take T [1]).opened T [12])).1.shut T 13, .nil)) := rfl
    clear h8 k8 n8 itp8 ee8 e9
    cases hs5 : stands T ((paramsP T n ((r.take T [1]).opened T [12])).1.shut T 13) [5]
    · have hW1 : wheresP T n ((paramsP T n ((r.take T [1]).opened T [12])).1.shut T 13) = ((paramsP T n ((r.take T [1]).opened T [12])).1.shut T 13, .nil) := by rw [hW.out, hs5]; rfl
      have hA : RdW T g cap b (wheresP T n ((paramsP T n ((r.take T [1]).opened T [12])).1.shut T 13)).1 W9 := by
        have hsk : ((paramsP T n ((r.take T [1]).opened T [12])).1.shut T 13).skips T [5] = (paramsP T n ((r.take T [1]).opened T [12])).1.shut T 13 := by unfold Rd.skips; rw [hs5]; rfl
        rw [hsk] at h9
        rw [hW1]; exact h9
      obtain ⟨tw, htw⟩ : ∃ tw : Tr, tw = .nil := ⟨_, rfl⟩
      have itw : New w.heap.size W9 tw := by rw [htw]; exact New.nil _ _
      have otw : NotIn W1.heap.size tw := by rw [htw]; trivial
      obtain ⟨aw', lw, cw, hvw⟩ : ∃ ao n cp, valT tw = .slice ao n cp ∧ (Value.slice ao n cp = .slice none 0 0) := ⟨none, 0, 0, by rw [htw]; rfl, rfl⟩
      obtain ⟨hvw, hvn⟩ := hvw
      rw [← hvn] at n9
      replace htw : er tw = (wheresP T n ((paramsP T n ((r.take T [1]).opened T [12])).1.shut T 13)).2 := by rw [htw, hW1]; rfl
      have nA := n9
      have itpA := itp9
      have eA := ee9
      clear n9 itp9 ee9 h9 hW1 hW hvn
      have HTW : Hid (er tw = (wheresP T n ((paramsP T n ((r.take T [1]).opened T [12])).1.shut T 13)).2) := htw
      have HVW : Hid (valT tw = .slice aw' lw cw) := hvw
      clear htw hvw hs5
      go_wp2_with fail
      refine (HB.out _ _ hA (HD2.out _ aw 6 (by omega))).mono ?_
      rintro e WB ⟨tb, rfl, htb, itb, hB', eB⟩
      have HTB : Hid (er tb = (B (wheresP T n ((paramsP T n ((r.take T [1]).opened T [12])).1.shut T 13)).1).2) := htb
      obtain ⟨ab, lb, cb, hvb⟩ := val_list (t := tb) (by rw [HTB.out]; exact HOB.out _)
      have HVB : Hid (valT tb = .slice ab lb cb) := hvb
      rw [hvb]
      clear hvb htb
      have nB := (eB.block W1.heap.size (Array.getElem?_eq_some_iff.1 nA).1 hne).trans nA
      obtain ⟨_, _, y5, yf⟩ := seven_cells nB
      have yf5 := yf 5
      have otb := itb.fresh.notIn (Array.getElem?_eq_some_iff.1 nA).1
      have itpB := itpA.ex hA eB
      have itwB := itw.ex hA eB
      have ee := eA.trans eB
      have hsz := eA.size
      clear hA eA eB itpA itw nA
      go_wp2
      go_ret
      refine ⟨.node W1.heap.size 0 { tag := 17, name := q.text, npos := q.pos } tp (.node 0 0 { tag := 18 } tw tb), rfl, ?_, New.node (itpB.set otp _ _) (New.node (itwB.set otw _ _) ((itb.mono hsz).set otb _ _) (fun p => absurd rfl p.2.1) (by simp) trivial) (fun _ => hH) (by simp) ?_, by rw [HF.out]; exact hB'.setNew nB (by decide) (by decide) _ _, ee.setNew hH _ _⟩
      · rw [HF.out, ← HTP.out, ← HTW.out, ← HTB.out]; rfl
      · exact ⟨_, heap_set _ nB, ⟨rfl, rfl, rfl⟩, by rw [HVP.out]; rfl, _, _, _, _, _, rfl, by rw [HVW.out]; rfl, by rw [HVB.out]; rfl, rfl⟩
    · have hW1 : wheresP T n ((paramsP T n ((r.take T [1]).opened T [12])).1.shut T 13) = listP T (relP T) n (((paramsP T n ((r.take T [1]).opened T [12])).1.shut T 13).skips T [5]) := by rw [hW.out, hs5]; rfl
      have HW1 : Hid (wheresP T n ((paramsP T n ((r.take T [1]).opened T [12])).1.shut T 13) = listP T (relP T) n (((paramsP T n ((r.take T [1]).opened T [12])).1.shut T 13).skips T [5])) := hW1
      clear hW1 hW
      have ask := adv_skips hends asx.lt (show oneOf [5] 0 = false by decide)
      go_wp2_with fail
      refine (listC_any T g cap b 191 n 0 (relP T) _ W9 enters_rel (fun r w h hd => rel_any T g cap b n r w (atom_any T g cap b n) h hd) (goes_rel hends) so_rel h9 (HD2.out _ ask 0 (by omega))).mono ?_
      rintro e WA0 ⟨tw, rfl, htw0, itw0, hA0, eA0⟩
      have htw : er tw = (wheresP T n ((paramsP T n ((r.take T [1]).opened T [12])).1.shut T 13)).2 := by rw [HW1.out]; exact htw0
      obtain ⟨aw', lw, cw, hvw⟩ := val_list (t := tw) (by rw [htw0]; exact sol_list _ _ _)
      rw [hvw]
      have nA0 := (eA0.block W1.heap.size (Array.getElem?_eq_some_iff.1 n9).1 hne).trans n9
      obtain ⟨_, y4, _, yf⟩ := seven_cells nA0
      have yf4 := yf 4
      have otw := itw0.fresh.notIn (Array.getElem?_eq_some_iff.1 n9).1
      have itp10 := itp9.ex h9 eA0
      have itpA := itp10.set otp 4 (.slice aw' lw cw)
      have itw := (itw0.mono ee9.size).set otw 4 (.slice aw' lw cw)
      have eA := (ee9.trans eA0).setNew hH 4 (.slice aw' lw cw)
      have nA := heap_set (o := 4) (.slice aw' lw cw) nA0
      have hA : RdW T g cap b (wheresP T n ((paramsP T n ((r.take T [1]).opened T [12])).1.shut T 13)).1 (WA0.setCell ⟨W1.heap.size, 4, none⟩ (.slice aw' lw cw)) := by
        rw [HW1.out]; exact hA0.setNew nA0 (by decide) (by decide) _ _
      replace nA : (WA0.setCell ⟨W1.heap.size, 4, none⟩ (.slice aw' lw cw)).heap[W1.heap.size]? = some (.cells #[.string q.text, .int .i64 q.pos, .int .i64 0, .slice ap' lp cp', .slice aw' lw cw, .slice none 0 0, .int .i64 0] 105 (0, 0)) := nA
      clear htw0 itw0 hA0 eA0 n9 itp9 ee9 h9 itp10 HW1 yf
      have HTW : Hid (er tw = (wheresP T n ((paramsP T n ((r.take T [1]).opened T [12])).1.shut T 13)).2) := htw
      have HVW : Hid (valT tw = .slice aw' lw cw) := hvw
      clear htw hvw hs5
      go_wp2_with fail
      refine (HB.out _ _ hA (HD2.out _ aw 6 (by omega))).mono ?_
      rintro e WB ⟨tb, rfl, htb, itb, hB', eB⟩
      have HTB : Hid (er tb = (B (wheresP T n ((paramsP T n ((r.take T [1]).opened T [12])).1.shut T 13)).1).2) := htb
      obtain ⟨ab, lb, cb, hvb⟩ := val_list (t := tb) (by rw [HTB.out]; exact HOB.out _)
      have HVB : Hid (valT tb = .slice ab lb cb) := hvb
      rw [hvb]
      clear hvb htb
      have nB := (eB.block W1.heap.size (Array.getElem?_eq_some_iff.1 nA).1 hne).trans nA
      obtain ⟨_, _, y5, yf⟩ := seven_cells nB
      have yf5 := yf 5
      have otb := itb.fresh.notIn (Array.getElem?_eq_some_iff.1 nA).1
      have itpB := itpA.ex hA eB
      have itwB := itw.ex hA eB
      have ee := eA.trans eB
      have hsz := eA.size
      clear hA eA eB itpA itw nA
      go_wp2
      go_ret
      refine ⟨.node W1.heap.size 0 { tag := 17, name := q.text, npos := q.pos } tp (.node 0 0 { tag := 18 } tw tb), rfl, ?_, New.node (itpB.set otp _ _) (New.node (itwB.set otw _ _) ((itb.mono hsz).set otb _ _) (fun p => absurd rfl p.2.1) (by simp) trivial) (fun _ => hH) (by simp) ?_, by rw [HF.out]; exact hB'.setNew nB (by decide) (by decide) _ _, ee.setNew hH _ _⟩
      · rw [HF.out, ← HTP.out, ← HTW.out, ← HTB.out]; rfl
      · exact ⟨_, heap_set _ nB, ⟨rfl, rfl, rfl⟩, by rw [HVP.out]; rfl, _, _, _, _, _, rfl, by rw [HVW.out]; rfl, by rw [HVB.out]; rfl, rfl⟩
  · have hP1 : paramsP T n ((r.take T [1]).opened T [12]) = listP T (paramP T) n ((r.take T [1]).opened T [12]) := by rw [HP.out, hs]; rfl
    have HP1 : Hid (paramsP T n ((r.take T [1]).opened T [12]) = listP T (paramP T) n ((r.take T [1]).opened T [12])) := hP1
    clear hP1 HP
    go_wp2_with fail
    refine (listN_any T g cap b 185 n 0 (paramP T) _ W5 enters_name (param_any T g cap b n 0) (goes_param hends) so_param h5 hdr1).mono ?_
    rintro e W60 ⟨tp, rfl, htp0, itp0, h60, e60⟩
    have htp : er tp = (paramsP T n ((r.take T [1]).opened T [12])).2 := by rw [HP1.out]; exact htp0
    obtain ⟨ap', lp, cp', hvp⟩ := val_list (t := tp) (by rw [htp0]; exact sol_list _ _ _)
    rw [hvp]
    have n60 := (e60.block W1.heap.size (Array.getElem?_eq_some_iff.1 n5).1 hne).trans n5
    obtain ⟨y3, _, _, yf⟩ := seven_cells n60
    have yf3 := yf 3
    have otp := itp0.fresh.notIn (Array.getElem?_eq_some_iff.1 n5).1
    have itp := (itp0.mono e5.size).set otp 3 (.slice ap' lp cp')
    have e6 := (e5.trans e60).setNew hH 3 (.slice ap' lp cp')
    have n6 : (W60.setCell ⟨W1.heap.size, 3, none⟩ (.slice ap' lp cp')).heap[W1.heap.size]? = some (.cells #[.string q.text, .int .i64 q.pos, .int .i64 0, .slice ap' lp cp', .slice none 0 0, .slice none 0 0, .int .i64 0] 105 (0, 0)) := heap_set (o := 3) (.slice ap' lp cp') n60
    have h6 : RdW T g cap b (paramsP T n ((r.take T [1]).opened T [12])).1 (W60.setCell ⟨W1.heap.size, 3, none⟩ (.slice ap' lp cp')) := by
      rw [HP1.out]; exact h60.setNew n60 (by decide) (by decide) _ _
    clear htp0 itp0 h60 e60 n5 e5 h5 n60 HP1 yf
    have HTP : Hid (er tp = (paramsP T n ((r.take T [1]).opened T [12])).2) := htp
    have HVP : Hid (valT tp = .slice ap' lp cp') := hvp
    clear htp hvp hs
    go_wp2_with fail
    refine (shut_any T g cap b _ 13 _ h6 (by decide) hnp).mono ?_
    rintro e W7 ⟨rfl, h7, e7⟩
    have n7 := (e7.block W1.heap.size (Array.getElem?_eq_some_iff.1 n6).1 hne).trans n6
    have itp7 := itp.ex h6 e7
    have l7 : W1.heap.size < W7.heap.size := (Array.getElem?_eq_some_iff.1 n7).1
    have k8 := kinds_new W7 [5] #[.int .i64 5] rfl
    have h8 := h7.alloc (.cells #[.int .i64 5] 141)
    have e8 := (Ex.refl b W7).alloc (.cells #[.int .i64 5] 141)
    have ee8 := (e6.trans e7).trans e8
    have itp8 := itp7.ex h7 e8
    have n8 := (e8.block W1.heap.size l7 hne).trans n7
    clear h6 n6 e6 itp h7 n7 itp7 l7 e7 e8
    go_wp2_with fail
    generalize W7.alloc (.cells #[.int .i64 5] 141) = W8 at *
    refine (skips_any T g cap b _ W7.heap.size 1 [5] W8 h8 k8 (by decide) (by decide)).mono ?_
    rintro e W9 ⟨rfl, h9, e9⟩
    have n9 := (e9.block W1.heap.size (Array.getElem?_eq_some_iff.1 n8).1 hne).trans n8
    have itp9 := itp8.ex h8 e9
    have ee9 := ee8.trans e9
    have hW : Hid (wheresP T n ((paramsP T n ((r.take T [1]).opened T [12])).1.shut T 13) = if stands T ((paramsP T n ((r.take T [1]).opened T [12])).1.shut T 13) [5] then listP T (relP T) n (((paramsP T n ((r.take T [1]).opened T [12])).1.shut T 13).skips T [5]) else ((paramsP T n ((r.take T [1]).opened T [12])).1.shut T 13, .nil)) := rfl
    clear h8 k8 n8 itp8 ee8 e9
    cases hs5 : stands T ((paramsP T n ((r.take T [1]).opened T [12])).1.shut T 13) [5]
    · have hW1 : wheresP T n ((paramsP T n ((r.take T [1]).opened T [12])).1.shut T 13) = ((paramsP T n ((r.take T [1]).opened T [12])).1.shut T 13, .nil) := by rw [hW.out, hs5]; rfl
      have hA : RdW T g cap b (wheresP T n ((paramsP T n ((r.take T [1]).opened T [12])).1.shut T 13)).1 W9 := by
        have hsk : ((paramsP T n ((r.take T [1]).opened T [12])).1.shut T 13).skips T [5] = (paramsP T n ((r.take T [1]).opened T [12])).1.shut T 13 := by unfold Rd.skips; rw [hs5]; rfl
        rw [hsk] at h9
        rw [hW1]; exact h9
      obtain ⟨tw, htw⟩ : ∃ tw : Tr, tw = .nil := ⟨_, rfl⟩
      have itw : New w.heap.size W9 tw := by rw [htw]; exact New.nil _ _
      have otw : NotIn W1.heap.size tw := by rw [htw]; trivial
      obtain ⟨aw', lw, cw, hvw⟩ : ∃ ao n cp, valT tw = .slice ao n cp ∧ (Value.slice ao n cp = .slice none 0 0) := ⟨none, 0, 0, by rw [htw]; rfl, rfl⟩
      obtain ⟨hvw, hvn⟩ := hvw
      rw [← hvn] at n9
      replace htw : er tw = (wheresP T n ((paramsP T n ((r.take T [1]).opened T [12])).1.shut T 13)).2 := by rw [htw, hW1]; rfl
      have nA := n9
      have itpA := itp9
      have eA := ee9
      clear n9 itp9 ee9 h9 hW1 hW hvn
      have HTW : Hid (er tw = (wheresP T n ((paramsP T n ((r.take T [1]).opened T [12])).1.shut T 13)).2) := htw
      have HVW : Hid (valT tw = .slice aw' lw cw) := hvw
      clear htw hvw hs5
      go_wp2_with fail
      refine (HB.out _ _ hA (HD2.out _ aw 6 (by omega))).mono ?_
      rintro e WB ⟨tb, rfl, htb, itb, hB', eB⟩
      have HTB : Hid (er tb = (B (wheresP T n ((paramsP T n ((r.take T [1]).opened T [12])).1.shut T 13)).1).2) := htb
      obtain ⟨ab, lb, cb, hvb⟩ := val_list (t := tb) (by rw [HTB.out]; exact HOB.out _)
      have HVB : Hid (valT tb = .slice ab lb cb) := hvb
      rw [hvb]
      clear hvb htb
      have nB := (eB.block W1.heap.size (Array.getElem?_eq_some_iff.1 nA).1 hne).trans nA
      obtain ⟨_, _, y5, yf⟩ := seven_cells nB
      have yf5 := yf 5
      have otb := itb.fresh.notIn (Array.getElem?_eq_some_iff.1 nA).1
      have itpB := itpA.ex hA eB
      have itwB := itw.ex hA eB
      have ee := eA.trans eB
      have hsz := eA.size
      clear hA eA eB itpA itw nA
      go_wp2
      go_ret
      refine ⟨.node W1.heap.size 0 { tag := 17, name := q.text, npos := q.pos } tp (.node 0 0 { tag := 18 } tw tb), rfl, ?_, New.node (itpB.set otp _ _) (New.node (itwB.set otw _ _) ((itb.mono hsz).set otb _ _) (fun p => absurd rfl p.2.1) (by simp) trivial) (fun _ => hH) (by simp) ?_, by rw [HF.out]; exact hB'.setNew nB (by decide) (by decide) _ _, ee.setNew hH _ _⟩
      · rw [HF.out, ← HTP.out, ← HTW.out, ← HTB.out]; rfl
      · exact ⟨_, heap_set _ nB, ⟨rfl, rfl, rfl⟩, by rw [HVP.out]; rfl, _, _, _, _, _, rfl, by rw [HVW.out]; rfl, by rw [HVB.out]; rfl, rfl⟩
    · have hW1 : wheresP T n ((paramsP T n ((r.take T [1]).opened T [12])).1.shut T 13) = listP T (relP T) n (((paramsP T n ((r.take T [1]).opened T [12])).1.shut T 13).skips T [5]) := by rw [hW.out, hs5]; rfl
      have HW1 : Hid (wheresP T n ((paramsP T n ((r.take T [1]).opened T [12])).1.shut T 13) = listP T (relP T) n (((paramsP T n ((r.take T [1]).opened T [12])).1.shut T 13).skips T [5])) := hW1
      clear hW1 hW
      have ask := adv_skips hends asx.lt (show oneOf [5] 0 = false by decide)
      go_wp2_with fail
      refine (listC_any T g cap b 191 n 0 (relP T) _ W9 enters_rel (fun r w h hd => rel_any T g cap b n r w (atom_any T g cap b n) h hd) (goes_rel hends) so_rel h9 (HD2.out _ ask 0 (by omega))).mono ?_
      rintro e WA0 ⟨tw, rfl, htw0, itw0, hA0, eA0⟩
      have htw : er tw = (wheresP T n ((paramsP T n ((r.take T [1]).opened T [12])).1.shut T 13)).2 := by rw [HW1.out]; exact htw0
      obtain ⟨aw', lw, cw, hvw⟩ := val_list (t := tw) (by rw [htw0]; exact sol_list _ _ _)
      rw [hvw]
      have nA0 := (eA0.block W1.heap.size (Array.getElem?_eq_some_iff.1 n9).1 hne).trans n9
      obtain ⟨_, y4, _, yf⟩ := seven_cells nA0
      have yf4 := yf 4
      have otw := itw0.fresh.notIn (Array.getElem?_eq_some_iff.1 n9).1
      have itp10 := itp9.ex h9 eA0
      have itpA := itp10.set otp 4 (.slice aw' lw cw)
      have itw := (itw0.mono ee9.size).set otw 4 (.slice aw' lw cw)
      have eA := (ee9.trans eA0).setNew hH 4 (.slice aw' lw cw)
      have nA := heap_set (o := 4) (.slice aw' lw cw) nA0
      have hA : RdW T g cap b (wheresP T n ((paramsP T n ((r.take T [1]).opened T [12])).1.shut T 13)).1 (WA0.setCell ⟨W1.heap.size, 4, none⟩ (.slice aw' lw cw)) := by
        rw [HW1.out]; exact hA0.setNew nA0 (by decide) (by decide) _ _
      replace nA : (WA0.setCell ⟨W1.heap.size, 4, none⟩ (.slice aw' lw cw)).heap[W1.heap.size]? = some (.cells #[.string q.text, .int .i64 q.pos, .int .i64 0, .slice ap' lp cp', .slice aw' lw cw, .slice none 0 0, .int .i64 0] 105 (0, 0)) := nA
      clear htw0 itw0 hA0 eA0 n9 itp9 ee9 h9 itp10 HW1 yf
      have HTW : Hid (er tw = (wheresP T n ((paramsP T n ((r.take T [1]).opened T [12])).1.shut T 13)).2) := htw
      have HVW : Hid (valT tw = .slice aw' lw cw) := hvw
      clear htw hvw hs5
      go_wp2_with fail
      refine (HB.out _ _ hA (HD2.out _ aw 6 (by omega))).mono ?_
      rintro e WB ⟨tb, rfl, htb, itb, hB', eB⟩
      have HTB : Hid (er tb = (B (wheresP T n ((paramsP T n ((r.take T [1]).opened T [12])).1.shut T 13)).1).2) := htb
      obtain ⟨ab, lb, cb, hvb⟩ := val_list (t := tb) (by rw [HTB.out]; exact HOB.out _)
      have HVB : Hid (valT tb = .slice ab lb cb) := hvb
      rw [hvb]
      clear hvb htb
      have nB := (eB.block W1.heap.size (Array.getElem?_eq_some_iff.1 nA).1 hne).trans nA
      obtain ⟨_, _, y5, yf⟩ := seven_cells nB
      have yf5 := yf 5
      have otb := itb.fresh.notIn (Array.getElem?_eq_some_iff.1 nA).1
      have itpB := itpA.ex hA eB
      have itwB := itw.ex hA eB
      have ee := eA.trans eB
      have hsz := eA.size
      clear hA eA eB itpA itw nA
      go_wp2
      go_ret
      refine ⟨.node W1.heap.size 0 { tag := 17, name := q.text, npos := q.pos } tp (.node 0 0 { tag := 18 } tw tb), rfl, ?_, New.node (itpB.set otp _ _) (New.node (itwB.set otw _ _) ((itb.mono hsz).set otb _ _) (fun p => absurd rfl p.2.1) (by simp) trivial) (fun _ => hH) (by simp) ?_, by rw [HF.out]; exact hB'.setNew nB (by decide) (by decide) _ _, ee.setNew hH _ _⟩
      · rw [HF.out, ← HTP.out, ← HTW.out, ← HTB.out]; rfl
      · exact ⟨_, heap_set _ nB, ⟨rfl, rfl, rfl⟩, by rw [HVP.out]; rfl, _, _, _, _, _, rfl, by rw [HVW.out]; rfl, by rw [HVB.out]; rfl, rfl⟩
end Go.Proofs.YtikffmloeifkpaaGreatDoor

/- Package grammar: a program's items, one more. -/
namespace Go.Proofs.YtikffmloeifkpaaGreatDoor
open Go.RowKit Go.Lib Go.Deep

theorem Tryz.infoI : (Tryz.prog.info? 151).map (fun i => (i.zero, i.size, i.bytes)) = some (some .nilIface, 1, 16) := by kernel_rfl
theorem typ_I {t : Tr} {a : Nd} {x y : Tr} (h : er t = mk a x y) (h1 : 16 ≤ a.tag) (h2 : a.tag < 18) : elemCells t = [valT t] ∧ rowTyp (cons t .nil) = 151 ∧ ∃ b o a l q, t = .node b o a l q ∧ (a.tag = 19 ↔ 1 = 3) := by
  obtain ⟨b, o, l, r, rfl, _, _⟩ := node_of h
  refine ⟨?_, ?_, b, o, a, l, r, rfl, ⟨fun h => by omega, fun h => by omega⟩⟩
  · show (if a.tag = 19 then [Value.string a.name, .int .i64 a.npos, .int .i64 a.which] else if a.tag = 7 then [ptrT (.node b o a l r)] else [valT (.node b o a l r)]) = _
    rw [if_neg (by omega), if_neg (by omega)]
  · show (if a.tag = 19 then _ else if a.tag = 7 then _ else if a.tag < 7 then _ else if a.tag < 15 then _ else _) = _
    rw [if_neg (by omega), if_neg (by omega), if_neg (by omega), if_neg (by omega)]

/-- The program's own block. -/
def prgCells (v : Value) : Array Value := #[v, .slice none 0 0, .slice none 0 0, .int .i64 0, .slice none 0 0]
/-- What was read of the items. -/
structure Prg (T : List Tok) (g cap b pb : Nat) (w0 : World) (v : Value) (acc : Tr) (rc : Rd) (w : World) : Prop where
  own : w.ownsRow w0.heap.size 151 1 v (lenL acc) (rowCells acc)
  nil : acc = .nil → v = .slice none 0 0
  typ : acc ≠ .nil → rowTyp acc = 151
  sized : Sized 1 acc
  new : New w0.heap.size w acc
  ni : ∀ k, v.ownBlock = some k → NotIn k acc
  rd : RdW T g cap b rc w
  ex : Ex b w0 w
  blk : w.heap[pb]? = some (.cells (prgCells v) 111 (0, 0))
  ge : w0.heap.size ≤ pb
  nip : NotIn pb acc
  len : lenL acc ≤ rc.next
  nest : rc.nest = 0

variable {T : List Tok} {g cap b pb : Nat} {w0 w w' : World} {v : Value} {acc : Tr} {rc rc' : Rd}

theorem Prg.ne (h : Prg T g cap b pb w0 v acc rc w) : pb ≠ b := by
  intro e
  have h1 := h.blk
  rw [e, h.rd.blk] at h1
  simp at h1
theorem Prg.lt (h : Prg T g cap b pb w0 v acc rc w) : pb < w.heap.size := (Array.getElem?_eq_some_iff.1 h.blk).1
theorem Prg.cell (h : Prg T g cap b pb w0 v acc rc w) : w.cell? ⟨pb, 0, none⟩ = some v := cell_of_row _ _ _ _ _ _ h.blk
theorem Prg.froz (h : Prg T g cap b pb w0 v acc rc w) : w.frozen? ⟨pb, 0, none⟩ = false := by simp [World.frozen?, h.blk]
theorem Prg.own_ne (h : Prg T g cap b pb w0 v acc rc w) {k : Nat} (hk : v.ownBlock = some k) : k ≠ b ∧ k ≠ g ∧ k ≠ pb := by
  rcases h.own.2 with ⟨hx, _⟩ | ⟨g', cap', cur, hv, _, hh, _⟩
  · rw [hx] at hk; simp [Value.ownBlock] at hk
  · rw [hv] at hk
    simp only [Value.ownBlock, Option.some.injEq] at hk
    subst hk
    refine ⟨fun e1 => ?_, fun e1 => ?_, fun e1 => ?_⟩
    · rw [e1, h.rd.blk] at hh
      simp at hh
    · obtain ⟨cur2, hc9, _⟩ := h.rd.row
      rw [e1, hc9] at hh
      simp at hh
    · rw [e1, h.blk] at hh
      simp at hh
theorem Prg.move (h : Prg T g cap b pb w0 v acc rc w) (e : Ex b w w') (hr : RdW T g cap b rc' w') (hl : rc.next ≤ rc'.next) (hn : rc'.nest = rc.nest) : Prg T g cap b pb w0 v acc rc' w' :=
  ⟨ownsRow_ex h.own h.rd.blk (by decide) e, h.nil, h.typ, h.sized, h.new.ex h.rd e, h.ni, hr, h.ex.trans e, (e.block pb h.lt h.ne).trans h.blk, h.ge, h.nip, Nat.le_trans h.len hl, hn.trans h.nest⟩

set_option maxHeartbeats 1000000 in
theorem Prg.push (h : Prg T g cap b pb w0 v acc rc w) {t5 : Tr} {r5 : Rd} {a : Nd} {x y : Tr} {W5 W6 : World} {g6 cp6 u5 : Nat} {p5 : Addr} (ht : er t5 = .node 0 0 a x y) (h1 : 16 ≤ a.tag) (h2 : a.tag < 18)
    (hv : valT t5 = .iface u5 (.pointer (some p5))) (it5 : New w.heap.size W5 t5) (h5 : RdW T g cap b r5 W5) (e5 : Ex b w W5)
    (own6 : W6.ownsRow w0.heap.size 151 1 (.slice (some ⟨g6, 0, none⟩) (lenL acc + 1) cp6) (lenL acc + 1) (rowCells acc ++ [.iface u5 (.pointer (some p5))]))
    (grow6 : (W5.alloc (.cells #[.iface u5 (.pointer (some p5))] 151)).grownBy W6 v.ownBlock) (hat6 : v.ownBlock = some g6 ∨ g6 = W5.heap.size + 1) (hl : rc.next ≤ r5.next) (hlen : lenL acc + 1 ≤ r5.next) (hn : r5.nest = rc.nest) :
    Prg T g cap b pb w0 (.slice (some ⟨g6, 0, none⟩) (lenL acc + 1) cp6) (snoc acc t5) r5 (W6.setCell ⟨pb, 0, none⟩ (.slice (some ⟨g6, 0, none⟩) (lenL acc + 1) cp6)) := by
  obtain ⟨hec5, hrt5, hnd5⟩ := typ_I ht h1 h2
  have P5 := h.move e5 h5 hl hn
  have e6 := (Ex.refl b W5).alloc (.cells #[.iface u5 (.pointer (some p5))] 151)
  have P6 := P5.move e6 (h5.alloc _) (Nat.le_refl _) rfl
  have ib6 := it5.ex h5 e6
  have s5 : (W5.alloc (.cells #[.iface u5 (.pointer (some p5))] 151)).heap.size = W5.heap.size + 1 := by simp
  generalize W5.alloc (.cells #[.iface u5 (.pointer (some p5))] 151) = W5' at *
  have hbut : ∀ k, v.ownBlock ≠ some k → k < W5'.heap.size → W6.heap[k]? = W5'.heap[k]? := fun k hk hlt => grow6.block k hlt (fun e => hk e.symm)
  have n6 : W6.heap[pb]? = some (.cells (prgCells v) 111 (0, 0)) := (hbut pb (fun e => (P6.own_ne e).2.2 rfl) P6.lt).trans P6.blk
  have h7 : RdW T g cap b r5 W6 := P6.rd.move (hbut b (fun e => (P6.own_ne e).1 rfl) P6.rd.size) (hbut g (fun e => (P6.own_ne e).2.1 rfl) P6.rd.gsize)
  have hw5 : w.heap.size ≤ W5'.heap.size := (e5.trans e6).size
  have hold : ∀ k, v.ownBlock = some k → k < w.heap.size := fun k hk => (h.own.lt k hk).2
  have ia7 : New w0.heap.size W6 acc := by
    cases hob : v.ownBlock with
    | none => exact P6.new.but (k := W5'.heap.size) (fun i hi _ => hbut i (by rw [hob]; simp) hi) (P6.new.out (Nat.le_refl _))
    | some k => exact P6.new.but (k := k) (fun i hi hne => hbut i (fun e1 => hne (Option.some.inj (e1.symm.trans hob))) hi) (P6.ni k hob)
  have ib7 : New w0.heap.size W6 t5 := by
    refine New.mono ?_ h.ex.size
    cases hob : v.ownBlock with
    | none => exact ib6.but (k := W5'.heap.size) (fun i hi _ => hbut i (by rw [hob]; simp) hi) (ib6.out (Nat.le_refl _))
    | some k => exact ib6.but (k := k) (fun i hi hne => hbut i (fun e1 => hne (Option.some.inj (e1.symm.trans hob))) hi) (ib6.fresh.notIn (hold k hob))
  have nis : NotIn g6 (snoc acc t5) := by
    rcases hat6 with hx | hx
    · exact notIn_snoc (h.ni g6 hx) (ib6.fresh.notIn (hold g6 hx))
    · subst hx
      exact notIn_snoc (P6.new.out (by omega)) (ib6.out (by omega))
  have nip : NotIn pb (snoc acc t5) := notIn_snoc h.nip (ib6.fresh.notIn h.lt)
  have hg6 : g6 ≠ pb := by
    rcases hat6 with hx | hx
    · exact (h.own_ne hx).2.2
    · have := h.lt; omega
  have i7 : New w0.heap.size W6 (snoc acc t5) := New.snoc h.sized ia7 ib7
  refine ⟨?_, fun hx => absurd hx (snoc_ne _ _), fun _ => ?_, sized_snoc h.sized hnd5 (by rw [hec5]; rfl), i7.set nip _ _, ?_, h7.setNew n6 (by decide) (by decide) _ _, ?_, ?_, h.ge, nip, ?_, hn.trans h.nest⟩
  · rw [lenL_snoc, rowCells_snoc, hec5, hv]
    refine ⟨own6.1, ?_⟩
    rcases own6.2 with ⟨hx, _⟩ | ⟨g', cap', cur, hv', hb', hh, r⟩
    · cases hx
    · refine .inr ⟨g', cap', cur, hv', hb', ?_, r⟩
      simp only [Value.slice.injEq, Option.some.injEq, Addr.mk.injEq] at hv'
      obtain ⟨⟨rfl, _, _⟩, _, _⟩ := hv'
      exact (Below.heap_setCell _ _ _ _ hg6).trans hh
  · cases hac : acc with
    | nil => show rowTyp (cons t5 .nil) = _; exact hrt5
    | node b1 o1 a1 x1 q1 => rw [← hac, rowTyp_snoc (by rw [hac]; intro h; cases h)]; exact h.typ (by rw [hac]; intro h; cases h)
  · intro k hk
    simp only [Value.ownBlock, Option.some.injEq] at hk
    subst hk
    exact nis
  · exact Ex.setNew (Ex.grown P6.ex grow6 (fun k hk => (h.own.lt k hk).1)) h.ge _ _
  · exact heap_set (o := 0) _ n6
  · rw [lenL_snoc]; exact hlen
end Go.Proofs.YtikffmloeifkpaaGreatDoor
