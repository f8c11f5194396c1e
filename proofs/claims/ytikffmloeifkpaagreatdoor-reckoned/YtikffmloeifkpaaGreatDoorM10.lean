/- The program's contracts, part 10: each says what a function of the program does, for every argument that its premises name. -/
import Derived.Test.YtikffmloeifkpaaGreatDoorM09
import Derived.Test.YtikffmloeifkpaaGreatDoorM05
/- Package grammar: a whole program. -/
namespace Go.Proofs.YtikffmloeifkpaaGreatDoor
open Go.RowKit Go.Lib Go.Deep

theorem field_kind (t : Tok) (w : World) : (Instr.field 143 (.agg #[.int .i64 t.kind, .int .i64 t.pos, .string t.text, .int .i64 t.value]) 0).run Tryz.prog w = .ok (.int .i64 t.kind) w := by kernel_rfl
theorem goes_array {T : List Tok} (he : Ends T) : Goes T (arrayP T) := fun r h => by
  have a1 := adv_take he h (show oneOf [1] 0 = false by decide)
  have a2 := a1.trans (adv_take he a1.lt (show oneOf [2] 0 = false by decide))
  exact a2.trans (adv_take he a2.lt (show oneOf [19] 0 = false by decide))
theorem goes_function {T : List Tok} (he : Ends T) {B : Pr} (hB : Goes T B) (n : Nat) : Goes T (functionP T B n) := fun r h => by
  rw [functionP_eq]
  have a1 := adv_take he h (show oneOf [1] 0 = false by decide)
  obtain ⟨o1, o2, o3⟩ := opened_next he a1.lt (show oneOf [12] 0 = false by decide)
  have a2 := a1.trans (adv_shut he o1 o3 (goes_params he n _ o2) (show oneOf [13] 0 = false by decide))
  have a3 := a2.trans (goes_wheres he n _ a2.lt)
  exact a3.trans (hB _ a3.lt)
theorem stop_next {T : List Tok} (he : Ends T) {r : Rd} (h : r.next < T.length) (hs : stands T r [0] = false) : r.next + 1 < T.length := by
  have hne : r.next ≠ T.length - 1 := by
    intro e
    unfold stands tokAt at hs
    rw [e, he] at hs
    exact absurd hs (by decide)
  omega

/-- What is left behind a program. -/
def PostPr (T : List Tok) (g cap b : Nat) (w : World) (q : Rd × Tr) : Ending → World → Prop :=
  fun e w' => ∃ v acc, e = .returned (.pointer (some ⟨w.heap.size, 0, none⟩)) ∧ er acc = q.2 ∧ Prg T g cap b w.heap.size w v acc q.1 w'

set_option maxRecDepth 100000 in
set_option maxHeartbeats 8000000 in
theorem program_any (T : List Tok) (g cap b n : Nat) (B : Pr) (r : Rd) (w : World) (hB : Gives T g cap b 192 B (Dm T n 6)) (hGB : Goes T B) (hOB : SoL B) (h : RdW T g cap b r w) (hd : T.length * 16 + 6 < n) (hd2 : n + 1 ≤ 1000000) (h0 : r.nest = 0) :
    Calls Tryz.prog 71 #[.pointer (some ⟨b, 0, none⟩)] w (PostPr T g cap b w (programL T B n n r)) := by
  have HB : Hid (Gives T g cap b 192 B (Dm T n 6)) := hB
  have HGB : Hid (Goes T B) := hGB
  have HOB : Hid (SoL B) := hOB
  clear hB hGB hOB
  obtain ⟨i0, hi0, hz0, hz1, hz2⟩ := info_parts Tryz.infoI
  have hends := h.ends
  have hfew := h.few
  have hDm : ∀ rc : Rd, rc.nest = 0 → Dm T n 6 rc ∧ rc.nest + 1 + n ≤ 1000000 := fun rc hn => ⟨⟨by omega, by omega, by omega⟩, by omega⟩
  have HDm : Hid _ := hDm
  clear hDm
  have PS : Prg T g cap b w.heap.size w (.slice none 0 0) .nil r (w.alloc (.cells (prgCells (.slice none 0 0)) 111)) :=
    ⟨World.ownsRow_nil _ _ _ _, fun _ => rfl, fun h => absurd rfl h, trivial, New.nil _ _, fun k hk => by simp [Value.ownBlock] at hk, h.alloc _, (Ex.refl b w).alloc _, heap_alloc_new w _, Nat.le_refl _, trivial, Nat.zero_le _, h0⟩
  have HPS : Hid _ := PS
  clear PS
  unfold prgCells at HPS
  go_enter Tryz.func71, Tryz.ntmps71
  go_wp2_with fail
  go_loopg [] n (fun m wr => ∃ (rc : Rd) (acc : Tr) (vv : Value), Prg T g cap b w.heap.size w vv acc rc wr ∧ T.length - rc.next ≤ m + 1 ∧ app (er acc) (programL T B n m rc).2 = (programL T B n n r).2 ∧ (programL T B n m rc).1 = (programL T B n n r).1)
  case atStart =>
    exact ⟨r, .nil, .slice none 0 0, HPS.out, by omega, rfl, rfl⟩
  case round =>
    obtain ⟨rc, acc, vv, PP, hm, hrun, hrun2⟩ := hrel
    have HR : Hid (app (er acc) (programL T B n gk rc).2 = (programL T B n n r).2) := hrun
    have HR2 : Hid ((programL T B n gk rc).1 = (programL T B n n r).1) := hrun2
    clear hrun hrun2
    have hc2 := PP.rd.alloc (.cells #[.int .i64 0] 141)
    have e2 := (Ex.refl b wr).alloc (.cells #[.int .i64 0] 141)
    have hk2 := kinds_new wr [0] #[.int .i64 0] rfl
    have P2 := PP.move e2 hc2 (Nat.le_refl _) rfl
    have HP2 : Hid _ := P2
    clear P2 PP e2
    go_wp2_with fail
    refine (stands_any T g cap b rc wr.heap.size 1 [0] _ hc2 hk2 (by decide)).mono ?_
    rintro e W3 ⟨rfl, nn, rfl⟩
    have P3 := HP2.out.move ((Ex.refl b _).drewN nn) (hc2.drewN nn) (Nat.le_refl _) rfl
    clear hc2 hk2 HP2
    generalize (wr.alloc (.cells #[.int .i64 0] 141)).drewN nn = W3 at *
    cases hs : stands T rc [0]
    · have hc4 := P3.rd.alloc (.cells #[.int .i64 3, .int .i64 4] 141)
      have e4 := (Ex.refl b W3).alloc (.cells #[.int .i64 3, .int .i64 4] 141)
      have hk4 := kinds_new W3 [3, 4] #[.int .i64 3, .int .i64 4] rfl
      have P4 := P3.move e4 hc4 (Nat.le_refl _) rfl
      have hlen0 := P3.len
      have hlt := stop_next hends P3.rd.lt hs
      have HP4 : Hid _ := P4
      clear P4 P3 e4
      obtain ⟨m, rfl⟩ : ∃ m, gk = m + 1 := ⟨gk - 1, by omega⟩
      go_wp2_with fail
      refine (take_any T g cap b rc W3.heap.size 2 [3, 4] _ hc4 hk4 (by decide) (by decide)).mono ?_
      rintro e W5 ⟨rfl, h5, e5⟩
      have a5 := adv_take hends hc4.lt (show oneOf [3, 4] 0 = false by decide)
      have g5 := take_ge hlt [3, 4]
      have P5 := HP4.out.move e5 h5 a5.ge a5.nest
      clear hc4 hk4 HP4 e5 hlt h5
      generalize hr5 : rc.take T [3, 4] = r5 at *
      generalize hq : took T rc [3, 4] = q at *
      have HS : Hid (programL T B n (m + 1) rc = if q.kind = 3 then ((programL T B n m (arrayP T r5).1).1, cons (arrayP T r5).2 (programL T B n m (arrayP T r5).1).2)
          else if q.kind = 4 then ((programL T B n m (functionP T B n r5).1).1, cons (functionP T B n r5).2 (programL T B n m (functionP T B n r5).1).2) else programL T B n m r5) := by
        unfold Hid
        rw [← hq, ← hr5]
        show (if _ then _ else _) = _
        rw [if_neg (by rw [hs]; decide)]
      clear hr5 hq hs
      rw [Tok.val_eq]
      have hfl := field_kind q
      have hnest5 := P5.nest
      obtain ⟨hdm5, hdn5⟩ := HDm.out r5 hnest5
      have hgl := a5.ge
      have hlen : lenL acc + 1 ≤ r5.next := Nat.le_trans (Nat.succ_le_succ hlen0) g5
      have hl4 : lenL acc ≤ 5000 := by have := P5.rd.lt; omega
      clear hlen0
      have ag : some w.heap.size ≠ vv.ownBlock := fun e => (P5.own_ne e.symm).2.2 rfl
      obtain ⟨ao, cp, rfl, hao⟩ := slice_any P5.own
      have c5 := P5.cell
      have f5 := P5.froz
      have l5 := P5.lt
      have hB5 : w.heap.size ≤ W5.heap.size := P5.ex.size
      have rd5 := P5.rd.drew
      have P5d := P5.move ((Ex.refl b W5).drew) rd5 (Nat.le_refl _) rfl
      have HP5 : Hid _ := P5d
      have HQ5 : Hid _ := P5
      have HM : Hid (T.length - rc.next ≤ m + 1 + 1) := hm
      clear P5d P5 a5 hao hm
      by_cases k3 : q.kind = 3
      · have k3' : (q.kind == 3) = true := by simpa using k3
        have hf : Hid (programL T B n (m + 1) rc = ((programL T B n m (arrayP T r5).1).1, cons (arrayP T r5).2 (programL T B n m (arrayP T r5).1).2)) := HS.out.trans (if_pos k3)
        have HRS : Hid (∃ a x y, (arrayP T r5).2 = .node 0 0 a x y ∧ a.tag = 16) := ⟨_, _, _, rfl, rfl⟩
        have HAdv : Hid (Adv T r5 (arrayP T r5).1) := goes_array hends r5 rd5.lt
        clear HS k3
        go_wp2_with fail
        go_region_law
          (first
            | (refine step_append_lies _ (by rfl) _ _ _ (by rfl) w.heap.size 151 i0 _ 1 16 Tryz.underlying107 hi0 hz0 hz1 hz2 rfl (by omega) (.slice ao (lenL acc) cp) (lenL acc) (rowCells acc) (by rfl) (own6.alloc _)
                ⟨W6.heap.size, 0, none⟩ 1 1 [.iface 192 (.pointer (some p6))] (by rfl) (by rfl) (World.news_of_block (cs := #[.iface 192 (.pointer (some p6))]) (t := 151) (fr := (0, 0)) (heap_alloc_new W6 _)) (by simp [Value.oneCell'])
                (by omega) (by unfold maxLen; omega) (by omega) (by simp; omega) (W6.heap.size + 1) (by simp) ?_; intro g7 cp7 W7 own7 grow7 hat7 hlt7; have q1 := (grow7.cell_far ⟨w.heap.size, 0, none⟩ Pa.out.lt ag).trans Pa.out.cell; have q2 := (grow7.frozen_far ⟨w.heap.size, 0, none⟩ Pa.out.lt ag).trans Pa.out.froz)
            | (refine step_call rfl 125 #[.pointer (some ⟨b, 0, none⟩)] _ (by go_simp) (array_any T g cap b r5 _ rd5) ?_; rintro e W6 ⟨t6, rfl, ht6, it6, h6, e6⟩; refine ⟨_, rfl, ?_⟩; have HT6 : Hid (er t6 = (arrayP T r5).2) := ht6; obtain ⟨xa, xx, xy, hxe, hxt⟩ := HRS.out; obtain ⟨p6, hp6, hv6⟩ := val_tag (HT6.out.trans hxe) (by omega); have HV6 : Hid (valT t6 = .iface 192 (.pointer (some p6))) := (hv6.trans (by rw [hxt]; rfl)); have HX : Hid (er t6 = .node 0 0 xa xx xy ∧ xa.tag = 16) := ⟨HT6.out.trans hxe, hxt⟩; rw [hp6]; clear hv6 hp6 hxe ht6 hxt; have P6 := HP5.out.move e6 h6 HAdv.out.ge HAdv.out.nest; have c6 := P6.cell; have f6 := P6.froz; have l6 := P6.lt; have own6 := P6.own; have hB6 : w.heap.size ≤ W6.heap.size := P6.ex.size; have Pa : Hid _ := P6.move ((Ex.refl b W6).alloc (.cells #[.iface 192 (.pointer (some p6))] 151)) (h6.alloc _) (Nat.le_refl _) rfl; clear P6))
        all_goals
          have fin : ∃ (rc : Rd) (acc' : Tr) (vv : Value), Prg T g cap b w.heap.size w vv acc' rc (W7.setCell ⟨w.heap.size, 0, none⟩ (.slice (some ⟨g7, 0, none⟩) (lenL acc + 1) cp7)) ∧ T.length - rc.next ≤ m + 1 ∧ app (er acc') (programL T B n m rc).2 = (programL T B n n r).2 ∧ (programL T B n m rc).1 = (programL T B n n r).1 := by
            have hmm := HM.out
            have r1 := HR.out
            have r2 := HR2.out
            rw [hf.out] at r1 r2
            have hge := HAdv.out.ge
            refine ⟨_, _, _, Prg.push HP5.out HX.out.1 (by have := HX.out.2; omega) (by have := HX.out.2; omega) HV6.out it6 h6 e6 own7 grow7 hat7 hge (Nat.le_trans hlen hge) HAdv.out.nest, by omega, ?_, r2⟩
            rw [er_snoc, app_snoc, HT6.out]
            exact r1
        all_goals clear HR HR2 hf HP5 HQ5 HM HB HGB HOB HDm HPS HRS HAdv HT6 HV6 HX Pa it6 h6 e6 own7 grow7 hat7 own6
        all_goals go_wp2
        all_goals go_roundg m
        all_goals first | exact fin | omega
      · have k3' : (q.kind == 3) = false := by simpa using k3
        by_cases k4 : q.kind = 4
        · have k4' : (q.kind == 4) = true := by simpa using k4
          have hf : Hid (programL T B n (m + 1) rc = ((programL T B n m (functionP T B n r5).1).1, cons (functionP T B n r5).2 (programL T B n m (functionP T B n r5).1).2)) := HS.out.trans ((if_neg k3).trans (if_pos k4))
          have HRS : Hid (∃ a x y, (functionP T B n r5).2 = .node 0 0 a x y ∧ a.tag = 17) := ⟨_, _, _, rfl, rfl⟩
          have HAdv : Hid (Adv T r5 (functionP T B n r5).1) := goes_function hends HGB.out n r5 rd5.lt
          clear HS k3 k4
          go_wp2_with fail
          go_region_law
            (first
              | (refine step_append_lies _ (by rfl) _ _ _ (by rfl) w.heap.size 151 i0 _ 1 16 Tryz.underlying107 hi0 hz0 hz1 hz2 rfl (by omega) (.slice ao (lenL acc) cp) (lenL acc) (rowCells acc) (by rfl) (own6.alloc _)
                  ⟨W6.heap.size, 0, none⟩ 1 1 [.iface 106 (.pointer (some p6))] (by rfl) (by rfl) (World.news_of_block (cs := #[.iface 106 (.pointer (some p6))]) (t := 151) (fr := (0, 0)) (heap_alloc_new W6 _)) (by simp [Value.oneCell'])
                  (by omega) (by unfold maxLen; omega) (by omega) (by simp; omega) (W6.heap.size + 1) (by simp) ?_; intro g7 cp7 W7 own7 grow7 hat7 hlt7; have q1 := (grow7.cell_far ⟨w.heap.size, 0, none⟩ Pa.out.lt ag).trans Pa.out.cell; have q2 := (grow7.frozen_far ⟨w.heap.size, 0, none⟩ Pa.out.lt ag).trans Pa.out.froz)
              | (refine step_call rfl 126 #[.pointer (some ⟨b, 0, none⟩)] _ (by go_simp) (function_any T g cap b n B r5 _ HB.out HOB.out rd5 hdm5 hdn5) ?_; rintro e W6 ⟨t6, rfl, ht6, it6, h6, e6⟩; refine ⟨_, rfl, ?_⟩; have HT6 : Hid (er t6 = (functionP T B n r5).2) := ht6; obtain ⟨xa, xx, xy, hxe, hxt⟩ := HRS.out; obtain ⟨p6, hp6, hv6⟩ := val_tag (HT6.out.trans hxe) (by omega); have HV6 : Hid (valT t6 = .iface 106 (.pointer (some p6))) := (hv6.trans (by rw [hxt]; rfl)); have HX : Hid (er t6 = .node 0 0 xa xx xy ∧ xa.tag = 17) := ⟨HT6.out.trans hxe, hxt⟩; rw [hp6]; clear hv6 hp6 hxe ht6 hxt; have P6 := HP5.out.move e6 h6 HAdv.out.ge HAdv.out.nest; have c6 := P6.cell; have f6 := P6.froz; have l6 := P6.lt; have own6 := P6.own; have hB6 : w.heap.size ≤ W6.heap.size := P6.ex.size; have Pa : Hid _ := P6.move ((Ex.refl b W6).alloc (.cells #[.iface 106 (.pointer (some p6))] 151)) (h6.alloc _) (Nat.le_refl _) rfl; clear P6))
          all_goals
            have fin : ∃ (rc : Rd) (acc' : Tr) (vv : Value), Prg T g cap b w.heap.size w vv acc' rc (W7.setCell ⟨w.heap.size, 0, none⟩ (.slice (some ⟨g7, 0, none⟩) (lenL acc + 1) cp7)) ∧ T.length - rc.next ≤ m + 1 ∧ app (er acc') (programL T B n m rc).2 = (programL T B n n r).2 ∧ (programL T B n m rc).1 = (programL T B n n r).1 := by
              have hmm := HM.out
              have r1 := HR.out
              have r2 := HR2.out
              rw [hf.out] at r1 r2
              have hge := HAdv.out.ge
              refine ⟨_, _, _, Prg.push HP5.out HX.out.1 (by have := HX.out.2; omega) (by have := HX.out.2; omega) HV6.out it6 h6 e6 own7 grow7 hat7 hge (Nat.le_trans hlen hge) HAdv.out.nest, by omega, ?_, r2⟩
              rw [er_snoc, app_snoc, HT6.out]
              exact r1
          all_goals clear HR HR2 hf HP5 HQ5 HM HB HGB HOB HDm HPS HRS HAdv HT6 HV6 HX Pa it6 h6 e6 own7 grow7 hat7 own6
          all_goals go_wp2
          all_goals go_roundg m
          all_goals first | exact fin | omega
        · have k4' : (q.kind == 4) = false := by simpa using k4
          have hf : Hid (programL T B n (m + 1) rc = programL T B n m r5) := HS.out.trans ((if_neg k3).trans (if_neg k4))
          have P5 := HQ5.out
          have fin : ∃ (rc : Rd) (acc' : Tr) (vv : Value), Prg T g cap b w.heap.size w vv acc' rc W5 ∧ T.length - rc.next ≤ m + 1 ∧ app (er acc') (programL T B n m rc).2 = (programL T B n n r).2 ∧ (programL T B n m rc).1 = (programL T B n n r).1 := by
            have hmm := HM.out
            have r1 := HR.out
            have r2 := HR2.out
            rw [hf.out] at r1 r2
            exact ⟨r5, acc, _, P5, by omega, r1, r2⟩
          clear HS k3 k4 HR HR2 hf HP5 HQ5 P5 HM HB HGB HOB HDm HPS
          go_wp2
          go_roundg m
          case rel => exact fin
          case measure => omega
    · have hend : programL T B n gk rc = (rc, .nil) := by
        cases gk with
        | zero => rfl
        | succ gk => show (if _ then _ else _) = _; rw [if_pos hs]
      have r1 := HR.out
      have r2 := HR2.out
      rw [hend] at r1 r2
      rw [app_nil] at r1
      have fin : PostPr T g cap b w (programL T B n n r) (.returned (.pointer (some ⟨w.heap.size, 0, none⟩))) W3 := ⟨vv, acc, rfl, r1, by rw [← r2]; exact P3⟩
      clear r1 r2 hend HR HR2 P3
      go_wp2
      go_ret
      exact fin
end Go.Proofs.YtikffmloeifkpaaGreatDoor

/- Package grammar: Parse. -/
namespace Go.Proofs.YtikffmloeifkpaaGreatDoor
open Go.RowKit Go.Lib Go.Deep

/-- A list of words, as Parse is given it. -/
structure Toks (T : List Tok) (g cap : Nat) (w : World) : Prop where
  row : ∃ cur, w.heap[g]? = some (.cells cur 143 (0, 0)) ∧ cur.toList.take (T.length * 4) = cellsOf T
  cap_ : T.length ≤ cap
  few : T.length ≤ 5000
  pos : 0 < T.length
  last : Ends T
  vals : ∀ t ∈ T, 0 ≤ t.value ∧ t.value ≤ 999999999

theorem Prg.tree {T : List Tok} {g cap b pb : Nat} {w0 w : World} {v : Value} {acc : Tr} {rc : Rd} (h : Prg T g cap b pb w0 v acc rc w) : ∃ t, valT t = v ∧ er t = listed (er acc) ∧ New w0.heap.size w t ∧ NotIn pb t := by
  cases hac : acc with
  | nil => exact ⟨.nil, (h.nil hac).symm, rfl, New.nil _ _, trivial⟩
  | node b1 o1 a1 x1 q1 =>
    have hne : acc ≠ .nil := by rw [hac]; intro h; cases h
    rw [← hac]
    have own := h.own
    obtain ⟨ao, cp, rfl, hao⟩ := slice_any own
    rcases hao with h0 | ⟨gg, rfl⟩
    · have := len_pos hne; omega
    refine ⟨.node gg cp { tag := 20 } acc .nil, rfl, ?_, New.listed hne h.sized h.new (by rw [h.typ hne]; exact own), ⟨h.nip, trivial, fun _ => (h.own_ne rfl).2.2⟩⟩
    show er (.node gg cp { tag := 20 } acc .nil) = listed (er acc)
    rw [hac]; rfl

/-- What Parse leaves. -/
def PostT (T : List Tok) (w : World) : Ending → World → Prop := fun e w' => Below w.heap.size w w' ∧
  (((programP T).1.code ≠ 0 ∧ e = .returned (.tuple #[.pointer none, .agg #[.int .i64 (programP T).1.code, .int .i64 (programP T).1.pos]])) ∨
   ((programP T).1.code = 0 ∧ ∃ pb t, e = .returned (.tuple #[.pointer (some ⟨pb, 0, none⟩), .agg #[.int .i64 0, .int .i64 0]]) ∧ w.heap.size ≤ pb ∧ w'.heap[pb]? = some (.cells (prgCells (valT t)) 111 (0, 0)) ∧
      er t = (programP T).2 ∧ New w.heap.size w' t ∧ NotIn pb t))

set_option maxRecDepth 100000 in
set_option maxHeartbeats 4000000 in
theorem Parse_any (T : List Tok) (g cap : Nat) (w : World) (h : Toks T g cap w) :
    Calls Tryz.prog 42 #[.slice (some ⟨g, 0, none⟩) T.length cap] w (PostT T w) := by
  obtain ⟨cur, hg, htk⟩ := h.row
  have hgs : g < w.heap.size := (Array.getElem?_eq_some_iff.1 hg).1
  have s1 : (w.alloc (.cells #[.int .i64 0, .int .i64 0] 37)).heap.size = w.heap.size + 1 := by simp
  have RS : RdW T g cap (w.heap.size + 1) rd0 ((w.alloc (.cells #[.int .i64 0, .int .i64 0] 37)).alloc (.cells #[.slice (some ⟨g, 0, none⟩) T.length cap, .int .i64 0, .int .i64 0, .int .i64 0, .int .i64 0] 145)) := by
    refine ⟨?_, ⟨cur, ?_, htk⟩, h.cap_, h.few, h.pos, h.last, h.vals⟩
    · rw [← s1]; exact heap_alloc_new _ _
    · exact (Below.heap_alloc _ _ _ (by rw [s1]; omega)).trans ((Below.heap_alloc _ _ _ hgs).trans hg)
  have e1 : Below w.heap.size w ((w.alloc (.cells #[.int .i64 0, .int .i64 0] 37)).alloc (.cells #[.slice (some ⟨g, 0, none⟩) T.length cap, .int .i64 0, .int .i64 0, .int .i64 0, .int .i64 0] 145)) :=
    ((Below.refl _ _).alloc (Nat.le_refl _) _).alloc (by simp) _
  have n1 : ((w.alloc (.cells #[.int .i64 0, .int .i64 0] 37)).alloc (.cells #[.slice (some ⟨g, 0, none⟩) T.length cap, .int .i64 0, .int .i64 0, .int .i64 0, .int .i64 0] 145)).heap[w.heap.size]? = some (.cells #[.int .i64 0, .int .i64 0] 37 (0, 0)) :=
    (Below.heap_alloc _ _ _ (by rw [s1]; omega)).trans (heap_alloc_new w _)
  have hn1 : w.heap.size ≠ w.heap.size + 1 := by omega
  have hfew := h.few
  have hends := h.last
  clear hg htk hgs
  go_enter Tryz.func42, Tryz.ntmps42
  go_wp2_with fail
  generalize (w.alloc (.cells #[.int .i64 0, .int .i64 0] 37)).alloc (.cells #[.slice (some ⟨g, 0, none⟩) T.length cap, .int .i64 0, .int .i64 0, .int .i64 0, .int .i64 0] 145) = W1 at *
  refine (program_any T g cap (w.heap.size + 1) (fuelOf T) (parse T (fuelOf T) 6) rd0 W1 (parse_any T hends g cap _ (fuelOf T) 6 (by decide)) (goes_parse hends _ _) ((so_parse _ 6).2.2.1 rfl) RS (by unfold fuelOf; omega) (by unfold fuelOf; omega) rfl).mono ?_
  rintro e W2 ⟨v, acc, rfl, hacc, P2⟩
  have HE : Hid (er acc = (programL T (parse T (fuelOf T) 6) (fuelOf T) (fuelOf T) rd0).2) := hacc
  have hq : (programP T).1 = (programL T (parse T (fuelOf T) 6) (fuelOf T) (fuelOf T) rd0).1 := rfl
  rw [← hq] at P2
  have n2 := (P2.ex.block w.heap.size (Array.getElem?_eq_some_iff.1 n1).1 hn1).trans n1
  have b2 : Below w.heap.size w W2 := e1.trans ⟨P2.ex.os, P2.ex.tape, P2.ex.output, P2.ex.size, fun k hk => P2.ex.block k (by have := e1.size; omega) (by omega)⟩
  have hle := e1.size
  have hlt1 : Hid (w.heap.size + 1 < W1.heap.size) := RS.size
  have h2 := P2.rd
  have g3 := h2.c3
  have g4 := h2.c4
  have q0 : W2.cell? ⟨w.heap.size, 0, none⟩ = some (.int .i64 0) := by rw [cell_of_row _ _ _ _ _ _ n2]; rfl
  have q1 : W2.cell? ⟨w.heap.size, 1, none⟩ = some (.int .i64 0) := by rw [cell_of_row _ _ _ _ _ _ n2]; rfl
  have z0 : ∀ o, W2.frozen? ⟨w.heap.size, o, none⟩ = false := fun o => by simp [World.frozen?, n2]
  have z1 : ∀ o, W2.frozen? ⟨w.heap.size + 1, o, none⟩ = false := h2.froz
  have HP : Hid _ := P2
  have HN : Hid _ := hn1
  clear P2 h2 hq hacc hn1 RS e1
  by_cases hcode : (programP T).1.code = 0
  · have HC : Hid ((programP T).1.code = 0) := hcode
    rw [hcode] at g3
    go_wp2
    obtain ⟨x0, x1⟩ := two_set (w := W2) (u0 := .int .i64 0) (u1 := .int .i64 0) q0 q1
    refine bodyPost_ret (v := .tuple #[.pointer (some ⟨W1.heap.size, 0, none⟩), .agg #[.int .i64 0, .int .i64 0]]) (by simp [results, Tryz.results42, go_sem, x0, x1]) rfl ?_
    obtain ⟨t, hv, ht, it, hni⟩ := HP.out.tree
    have P2 := HP.out
    have l2 := (Array.getElem?_eq_some_iff.1 P2.blk).1
    have hnF : w.heap.size ≠ W1.heap.size := by have := hlt1.out; omega
    refine ⟨(b2.setCell (Nat.le_refl _) _).setCell (Nat.le_refl _) _, .inr ⟨HC.out, W1.heap.size, t, rfl, hle, ?_, ?_, ?_, hni⟩⟩
    · rw [hv]
      exact (Below.heap_setCell _ _ _ _ hnF.symm).trans ((Below.heap_setCell _ _ _ _ hnF.symm).trans P2.blk)
    · rw [ht, HE.out]; rfl
    · have hnt : NotIn w.heap.size t := it.fresh.notIn (by have := hlt1.out; omega)
      exact ((it.mono hle).set hnt _ _).set hnt _ _
  · have hcode' : ((programP T).1.code != 0) = true := by simpa using hcode
    have HC : Hid ((programP T).1.code ≠ 0) := hcode
    clear hcode
    generalize hc3 : (programP T).1.code = c3 at *
    generalize hc4 : (programP T).1.pos = c4 at *
    have H3 : Hid ((programP T).1.code = c3) := hc3
    have H4 : Hid ((programP T).1.pos = c4) := hc4
    clear hc3 hc4
    go_wp2_with fail
    go_region
    all_goals go_wp2
    all_goals obtain ⟨x0, x1⟩ := two_set (w := W2) (u0 := .int .i64 c3) (u1 := .int .i64 c4) q0 q1
    all_goals (refine bodyPost_ret (v := .tuple #[.pointer none, .agg #[.int .i64 c3, .int .i64 c4]]) (by simp [results, Tryz.results42, go_sem, x0, x1]) rfl ⟨?_, Or.inl ⟨?_, ?_⟩⟩)
    all_goals first | (rw [H3.out]; exact HC.out) | (rw [H3.out, H4.out]) | exact (Below.setCell (p := ⟨w.heap.size, 1, none⟩) (Below.setCell (p := ⟨w.heap.size, 0, none⟩) b2 (Nat.le_refl _) _) (Nat.le_refl _) _).drew | exact Below.setCell (p := ⟨w.heap.size, 1, none⟩) (Below.setCell (p := ⟨w.heap.size, 0, none⟩) b2.drew (Nat.le_refl _) _) (Nat.le_refl _) _
end Go.Proofs.YtikffmloeifkpaaGreatDoor

/- Package grammar: what the parser gives where it finds no fault: parts of the right kinds, places that rise. -/
namespace Go.Proofs.YtikffmloeifkpaaGreatDoor
open Go.RowKit Go.Lib Go.Deep

/-- Which kinds may stand where, and what stands in them. Places: 0 an expression, 1 a condition, 2 a statement, 3 to 6 and 8 lists (arguments, a block, conditions, parameters, items), 7 an item, 9 two blocks, 13 to 16 and 18 a list's rest, 20 a function's condition, 21 its side, 22 a parameter, 23 conditions and a body, 99 nothing. -/
def sig (s n : Nat) : Option (Nat × Nat) :=
  if s = 0 then (if n ≤ 1 then some (99, 99) else if n = 2 then some (0, 99) else if n = 3 then some (3, 99) else if n ≤ 5 then some (0, 99) else if n = 6 then some (0, 0) else none)
  else if s = 1 then (if n = 7 then some (0, 0) else if n = 8 then some (1, 1) else none)
  else if s = 2 then (if n = 9 then some (0, 99) else if n = 10 then some (0, 0) else if n = 11 then some (1, 9) else if n = 12 then some (1, 4) else if n = 13 ∨ n = 14 then some (0, 99) else none)
  else if s = 9 then (if n = 18 then some (4, 4) else none)
  else if s = 3 ∨ s = 4 ∨ s = 5 ∨ s = 6 ∨ s = 8 then (if n = 20 then some (10 + s, 99) else none)
  else if s = 13 then (if n = 15 then some (0, 13) else none)
  else if s = 14 then (if n = 15 then some (2, 14) else none)
  else if s = 15 then (if n = 15 then some (20, 15) else none)
  else if s = 16 then (if n = 15 then some (22, 16) else none)
  else if s = 18 then (if n = 15 then some (7, 18) else none)
  else if s = 20 then (if n = 7 then some (21, 21) else none)
  else if s = 21 then (if n ≤ 1 then some (99, 99) else none)
  else if s = 22 then (if n = 19 then some (99, 99) else none)
  else if s = 7 then (if n = 16 then some (99, 99) else if n = 17 then some (6, 23) else none)
  else if s = 23 then (if n = 18 then some (5, 4) else none)
  else none
def nilOk (s : Nat) : Prop := s = 99 ∨ s = 3 ∨ s = 4 ∨ s = 5 ∨ s = 6 ∨ s = 8 ∨ s = 13 ∨ s = 14 ∨ s = 15 ∨ s = 16 ∨ s = 18

/-- What a part's own data keep. -/
structure OkA (a : Nd) : Prop where
  name : a.name.size ≤ 4000
  val : a.tag = 0 ∨ a.tag = 16 → -999999999 ≤ a.val ∧ a.val ≤ 999999999
  val0 : a.tag = 16 → 0 ≤ a.val
  op6 : a.tag = 6 → 27 ≤ a.op ∧ a.op ≤ 31
  op7 : a.tag = 7 → 21 ≤ a.op ∧ a.op ≤ 26
  op8 : a.tag = 8 → a.op = 32 ∨ a.op = 33

def Ws : Nat → Tr → Prop
  | s, .nil => nilOk s
  | s, .node _ _ a l r => OkA a ∧ (a.tag = 20 → lenL l ≤ 10000) ∧ match sig s a.tag with
    | none => False
    | some (x, y) => Ws x l ∧ Ws y r
theorem Ws.of20 {s x y b o : Nat} {a : Nd} {l r : Tr} (h : sig s a.tag = some (x, y)) (ha : OkA a) (h20 : a.tag = 20 → lenL l ≤ 10000) (hl : Ws x l) (hr : Ws y r) : Ws s (.node b o a l r) := by
  unfold Ws; rw [h]; exact ⟨ha, h20, hl, hr⟩
theorem Ws.of {s x y b o : Nat} {a : Nd} {l r : Tr} (h : sig s a.tag = some (x, y)) (ha : OkA a) (hl : Ws x l) (hr : Ws y r) (h20 : a.tag ≠ 20 := by simp) : Ws s (.node b o a l r) :=
  Ws.of20 h ha (fun e => absurd e h20) hl hr
theorem Ws.len {s b o : Nat} {a : Nd} {l r : Tr} (hw : Ws s (.node b o a l r)) (h : a.tag = 20) : lenL l ≤ 10000 := by
  unfold Ws at hw; exact hw.2.1 h
theorem Ws.nil99 : Ws 99 .nil := .inl rfl
theorem Ws.er : ∀ (t : Tr) (s : Nat), Ws s (YtikffmloeifkpaaGreatDoor.er t) ↔ Ws s t := by
  intro t
  induction t with
  | nil => intro s; exact Iff.rfl
  | node b o a l r ihl ihr =>
    intro s
    show (OkA a ∧ _ ∧ _) ↔ (OkA a ∧ _ ∧ _)
    rw [lenL_er]
    refine and_congr Iff.rfl (and_congr Iff.rfl ?_)
    cases sig s a.tag with
    | none => exact Iff.rfl
    | some p => exact and_congr (ihl _) (ihr _)

/-- Which parts have a name of their own. -/
def named (n : Nat) : Bool := n == 1 || n == 2 || n == 3 || n == 9 || n == 10 || n == 16 || n == 17 || n == 19
/-- The places of names and operators, in the text's order. -/
def ps : Tr → List Int
  | .nil => []
  | .node _ _ a l r => if a.tag = 6 then ps l ++ a.pos :: ps r else if named a.tag then a.npos :: (ps l ++ ps r) else ps l ++ ps r
theorem ps_er (t : Tr) : ps (er t) = ps t := by
  induction t with
  | nil => rfl
  | node b o a l r ihl ihr => simp only [er, ps, ihl, ihr]

variable {T : List Tok}
/-- Words' places, from word i on and ahead of word j, rising. -/
def Sg (T : List Tok) (i j : Nat) (l : List Int) : Prop := i ≤ j ∧ ∃ ix : List Nat, l = ix.map (fun k => (tokAt T k).pos) ∧ ix.Pairwise (· < ·) ∧ ∀ x ∈ ix, i ≤ x ∧ x < j
theorem Sg.nil {i j : Nat} (h : i ≤ j) : Sg T i j [] := ⟨h, [], rfl, .nil, fun _ h => by cases h⟩
theorem Sg.one (i : Nat) : Sg T i (i + 1) [(tokAt T i).pos] := ⟨by omega, [i], rfl, by simp, fun x h => by simp at h; omega⟩
theorem Sg.app {i j k : Nat} {l m : List Int} (h1 : Sg T i j l) (h2 : Sg T j k m) : Sg T i k (l ++ m) := by
  obtain ⟨a1, x1, rfl, p1, q1⟩ := h1
  obtain ⟨a2, x2, rfl, p2, q2⟩ := h2
  refine ⟨by omega, x1 ++ x2, by simp, List.pairwise_append.2 ⟨p1, p2, fun a ha b hb => ?_⟩, fun x hx => ?_⟩
  · have := q1 a ha; have := q2 b hb; omega
  · rcases List.mem_append.1 hx with h | h
    · have := q1 x h; omega
    · have := q2 x h; omega
theorem Sg.mono {i j i' j' : Nat} {l : List Int} (h : Sg T i j l) (h1 : i' ≤ i) (h2 : j ≤ j') : Sg T i' j' l := by
  obtain ⟨a1, x1, rfl, p1, q1⟩ := h
  exact ⟨by omega, x1, rfl, p1, fun x hx => by have := q1 x hx; omega⟩

/-- The words of a text: no text is long, numbers are small. -/
structure Small (T : List Tok) : Prop where
  text : ∀ t ∈ T, t.text.size ≤ 4000
  vals : ∀ t ∈ T, 0 ≤ t.value ∧ t.value ≤ 999999999
  few : T.length ≤ 5000
theorem Small.at (h : Small T) (i : Nat) : (tokAt T i).text.size ≤ 4000 ∧ 0 ≤ (tokAt T i).value ∧ (tokAt T i).value ≤ 999999999 := by
  rcases Nat.lt_or_ge i T.length with hi | hi
  · have := List.mem_of_getElem? (tokAt_some hi)
    exact ⟨h.text _ this, h.vals _ this⟩
  · have : tokAt T i = tok0 := by simp [tokAt, List.getD, List.getElem?_eq_none hi]
    rw [this]; exact ⟨by decide, by decide, by decide⟩
theorem OkA.mk_ {a : Nd} (hn : a.name = ByteArray.mk #[] ∨ ∃ i, a.name = (tokAt T i).text) (hT : Small T) (hv : -999999999 ≤ a.val ∧ a.val ≤ 999999999) (h16 : a.tag = 16 → 0 ≤ a.val)
    (h6 : a.tag = 6 → 27 ≤ a.op ∧ a.op ≤ 31) (h7 : a.tag = 7 → 21 ≤ a.op ∧ a.op ≤ 26) (h8 : a.tag = 8 → a.op = 32 ∨ a.op = 33) : OkA a := by
  refine ⟨?_, fun _ => hv, h16, h6, h7, h8⟩
  rcases hn with h | ⟨i, h⟩
  · rw [h]; decide
  · rw [h]; exact (hT.at i).1

theorem fail_code {n : Nat} {r : Rd} {c p : Int} (hc : c ≠ 0) : (r.fail n c p).code ≠ 0 := by
  unfold Rd.fail
  by_cases h : r.code = 0
  · rw [if_pos h]; exact hc
  · rw [if_neg h]; exact h
/-- A word was taken. -/
theorem take_ok {r : Rd} {ks : List Int} (h : (r.take T ks).code = 0) : r.code = 0 ∧ stands T r ks = true ∧ (r.take T ks).next = r.next + 1 ∧ took T r ks = tokAt T r.next := by
  unfold Rd.take at h ⊢
  by_cases hs : stands T r ks = true
  · rw [if_pos hs] at h ⊢
    exact ⟨h, hs, rfl, by unfold took; rw [if_pos hs]⟩
  · rw [if_neg hs] at h
    exact absurd h (fail_code (by decide))
theorem took_in {r : Rd} {ks : List Int} (h : stands T r ks = true) : (took T r ks).kind ∈ ks := by
  unfold took; rw [if_pos h]
  unfold stands oneOf at h
  exact List.contains_iff_mem.1 h
theorem skips_ok {r : Rd} {ks : List Int} (h : (r.skips T ks).code = 0) : r.code = 0 := by
  unfold Rd.skips at h
  by_cases hs : stands T r ks = true
  · rw [if_pos hs] at h; exact h
  · rw [if_neg hs] at h; exact h
theorem skips_le (r : Rd) (ks : List Int) : r.next ≤ (r.skips T ks).next := by
  unfold Rd.skips
  split
  · show r.next ≤ r.next + 1; omega
  · exact Nat.le_refl _
theorem deeper_ok {n : Nat} {r : Rd} {p : Int} (h : (r.deeper n p).code = 0) : r.code = 0 ∧ (r.deeper n p).next = r.next := by
  unfold Rd.deeper at h ⊢
  by_cases hd : 10 < r.nest + 1
  · rw [if_pos hd] at h
    exact absurd h (fail_code (by decide))
  · rw [if_neg hd] at h ⊢
    exact ⟨h, rfl⟩
theorem opened_ok {r : Rd} {ks : List Int} (h : (r.opened T ks).code = 0) : r.code = 0 ∧ (r.opened T ks).next = r.next + 1 := by
  obtain ⟨h1, h2⟩ := deeper_ok h
  obtain ⟨h3, _, h4, _⟩ := take_ok h1
  exact ⟨h3, h2.trans h4⟩
theorem shut_ok {r : Rd} {k : Int} (h : (r.shut T k).code = 0) : r.code = 0 ∧ (r.shut T k).next = r.next + 1 := by
  obtain ⟨h3, _, h4, _⟩ := take_ok (r := r) h
  exact ⟨h3, h4⟩

/-- What a part gives where there is no fault. -/
def Ok (T : List Tok) (s : Nat) (S : Pr) : Prop := ∀ r, r.next < T.length → (S r).1.code = 0 → r.code = 0 ∧ Ws s (S r).2 ∧ Sg T r.next (S r).1.next (ps (S r).2)

theorem ok_chainL (hT : Small T) (he : Ends T) {S : Pr} (hG : Goes T S) (hS : Ok T 0 S) {ops : List Int} (hops : ∀ k ∈ ops, 27 ≤ k ∧ k ≤ 31) (h0 : oneOf ops 0 = false) : ∀ n r v, r.next < T.length → (chainL T S ops n r v).1.code = 0 →
    r.code = 0 ∧ ∀ i, Ws 0 v → Sg T i r.next (ps v) → Ws 0 (chainL T S ops n r v).2 ∧ Sg T i (chainL T S ops n r v).1.next (ps (chainL T S ops n r v).2) := by
  intro n
  induction n with
  | zero => intro r v _ hc; exact ⟨hc, fun i hv hp => ⟨hv, hp⟩⟩
  | succ n ih =>
    intro r v hr hc
    unfold chainL at hc ⊢
    by_cases hs : stands T r ops = true
    · rw [if_pos hs] at hc ⊢
      have a1 := adv_take he hr h0
      have a2 := hG _ a1.lt
      obtain ⟨h1, hrest⟩ := ih _ _ a2.lt hc
      obtain ⟨h2, h3, h4⟩ := hS _ a1.lt h1
      obtain ⟨h5, h6, h7, h8⟩ := take_ok h2
      refine ⟨h5, fun i hv hp => hrest i (Ws.of (x := 0) (y := 0) rfl (OkA.mk_ (.inl rfl) hT (by simp) (by simp) (fun _ => hops _ (took_in h6)) (by simp) (by simp)) hv h3) ?_⟩
      show Sg T i _ (if (6 : Nat) = 6 then _ else _)
      rw [if_pos rfl]
      rw [h7] at h4
      have e := (hp.app (Sg.one r.next)).app h4
      rw [h8]
      simpa [List.append_assoc] using e
    · rw [if_neg hs] at hc ⊢
      exact ⟨hc, fun i hv hp => ⟨hv, hp⟩⟩
theorem ok_chain (hT : Small T) (he : Ends T) {S : Pr} (hG : Goes T S) (hS : Ok T 0 S) {ops : List Int} (hops : ∀ k ∈ ops, 27 ≤ k ∧ k ≤ 31) (h0 : oneOf ops 0 = false) (n : Nat) : Ok T 0 (chainP T S ops n) := by
  intro r hr hc
  obtain ⟨h1, hrest⟩ := ok_chainL hT he hG hS hops h0 n _ _ (hG r hr).lt hc
  obtain ⟨h2, h3, h4⟩ := hS r hr h1
  exact ⟨h2, hrest _ h3 h4⟩
theorem ok_logicL (hT : Small T) (he : Ends T) {S : Pr} (hG : Goes T S) (hS : Ok T 1 S) {op : Int} (hop : op = 32 ∨ op = 33) (h0 : oneOf [op] 0 = false) : ∀ n r v, r.next < T.length → (logicL T S op n r v).1.code = 0 →
    r.code = 0 ∧ ∀ i, Ws 1 v → Sg T i r.next (ps v) → Ws 1 (logicL T S op n r v).2 ∧ Sg T i (logicL T S op n r v).1.next (ps (logicL T S op n r v).2) := by
  intro n
  induction n with
  | zero => intro r v _ hc; exact ⟨hc, fun i hv hp => ⟨hv, hp⟩⟩
  | succ n ih =>
    intro r v hr hc
    unfold logicL at hc ⊢
    by_cases hs : stands T r [op] = true
    · rw [if_pos hs] at hc ⊢
      have a1 := adv_skips he hr h0
      have a2 := hG _ a1.lt
      obtain ⟨h1, hrest⟩ := ih _ _ a2.lt hc
      obtain ⟨h2, h3, h4⟩ := hS _ a1.lt h1
      refine ⟨skips_ok h2, fun i hv hp => hrest i (Ws.of (x := 1) (y := 1) rfl (OkA.mk_ (.inl rfl) hT (by simp) (by simp) (by simp) (by simp) (fun _ => hop)) hv h3) ?_⟩
      exact hp.app (h4.mono (skips_le _ _) (Nat.le_refl _))
    · rw [if_neg hs] at hc ⊢
      exact ⟨hc, fun i hv hp => ⟨hv, hp⟩⟩
theorem ok_logic (hT : Small T) (he : Ends T) {S : Pr} (hG : Goes T S) (hS : Ok T 1 S) {op : Int} (hop : op = 32 ∨ op = 33) (h0 : oneOf [op] 0 = false) (n : Nat) : Ok T 1 (logicP T S op n) := by
  intro r hr hc
  obtain ⟨h1, hrest⟩ := ok_logicL hT he hG hS hop h0 n _ _ (hG r hr).lt hc
  obtain ⟨h2, h3, h4⟩ := hS r hr h1
  exact ⟨h2, hrest _ h3 h4⟩
theorem ok_compare (hT : Small T) (he : Ends T) {S : Pr} (s s2 : Nat) (hss : s = 0 ∧ s2 = 1 ∨ s = 21 ∧ s2 = 20) (hG : Goes T S) (hS : Ok T s S) : Ok T s2 (compareP T S) := by
  intro r hr hc
  have a1 := hG r hr
  have a2 := adv_take he a1.lt (show oneOf cmpOps 0 = false by decide)
  obtain ⟨h1, h2, h3⟩ := hS _ a2.lt hc
  obtain ⟨h5, h6, h7, h8⟩ := take_ok h1
  obtain ⟨k1, k2, k3⟩ := hS r hr h5
  have hop : ∀ k ∈ cmpOps, 21 ≤ k ∧ k ≤ 26 := by decide
  refine ⟨k1, Ws.of (x := s) (y := s) (by rcases hss with ⟨rfl, rfl⟩ | ⟨rfl, rfl⟩ <;> rfl) (OkA.mk_ (.inl rfl) hT (by simp) (by simp) (by simp) (fun _ => hop _ (took_in h6)) (by simp)) k2 h2, ?_⟩
  rw [h7] at h3
  exact k3.app (h3.mono (by omega) (Nat.le_refl _))
theorem ok_listL (he : Ends T) {S : Pr} {s s2 : Nat} (hs2 : sig s2 15 = some (s, s2)) (hn2 : nilOk s2) (hG : Goes T S) (hS : Ok T s S) : ∀ n r, r.next < T.length → (listL T S n r).1.code = 0 → r.code = 0 ∧ Ws s2 (listL T S n r).2 ∧ Sg T r.next (listL T S n r).1.next (ps (listL T S n r).2) := by
  intro n
  induction n with
  | zero => intro r _ hc; exact ⟨hc, hn2, Sg.nil (Nat.le_refl _)⟩
  | succ n ih =>
    intro r hr hc
    unfold listL at hc ⊢
    by_cases hs : stands T r [18] = true
    · rw [if_pos hs] at hc ⊢
      have a1 := adv_skips he hr (show oneOf [18] 0 = false by decide)
      have a2 := hG _ a1.lt
      obtain ⟨h1, h2, h3⟩ := ih _ a2.lt hc
      obtain ⟨k1, k2, k3⟩ := hS _ a1.lt h1
      exact ⟨skips_ok k1, Ws.of hs2 ⟨by decide, by simp, by simp, by simp, by simp, by simp⟩ k2 h2, (k3.app h3).mono (skips_le _ _) (Nat.le_refl _)⟩
    · rw [if_neg hs] at hc ⊢
      exact ⟨hc, hn2, Sg.nil (Nat.le_refl _)⟩
theorem ok_listed {s : Nat} (hs : s = 3 ∨ s = 4 ∨ s = 5 ∨ s = 6 ∨ s = 8) {l : Tr} (h : Ws (10 + s) l) (hlen : lenL l ≤ 10000) : Ws s (listed l) ∧ ps (listed l) = ps l := by
  cases l with
  | nil => exact ⟨by unfold listed Ws nilOk; omega, rfl⟩
  | node b o a x y =>
    refine ⟨Ws.of20 (x := 10 + s) (y := 99) ?_ ⟨by decide, by simp, by simp, by simp, by simp, by simp⟩ (fun _ => hlen) h Ws.nil99, ?_⟩
    · rcases hs with rfl | rfl | rfl | rfl | rfl <;> rfl
    · show ps (.node b o a x y) ++ [] = _
      simp
theorem len_listL (he : Ends T) {S : Pr} (hG : Goes T S) : ∀ n r, r.next < T.length → lenL (listL T S n r).2 + r.next ≤ (listL T S n r).1.next := by
  intro n
  induction n with
  | zero => intro r _; show 0 + r.next ≤ r.next; omega
  | succ n ih =>
    intro r hr
    unfold listL
    by_cases hs : stands T r [18] = true
    · rw [if_pos hs]
      have a1 := adv_skips he hr (show oneOf [18] 0 = false by decide)
      have a2 := hG _ a1.lt
      have h1 := ih _ a2.lt
      have h2 := stands_skip hs
      have h3 := a2.ge
      show lenL (listL T S n (S (r.skips T [18])).1).2 + 1 + r.next ≤ _
      dsimp only
      omega
    · rw [if_neg hs]; show 0 + r.next ≤ r.next; omega
theorem ok_list (hT : Small T) (he : Ends T) {S : Pr} {s s2 : Nat} (hs2 : sig (10 + s2) 15 = some (s, 10 + s2)) (hs : s2 = 3 ∨ s2 = 5 ∨ s2 = 6) (hG : Goes T S) (hS : Ok T s S) (n : Nat) : Ok T s2 (listP T S n) := by
  intro r hr hc
  obtain ⟨h1, h2, h3⟩ := ok_listL he hs2 (by unfold nilOk; omega) hG hS n _ (hG r hr).lt hc
  obtain ⟨k1, k2, k3⟩ := hS r hr h1
  have hw : Ws (10 + s2) (cons (S r).2 (listL T S n (S r).1).2) := Ws.of hs2 ⟨by decide, by simp, by simp, by simp, by simp, by simp⟩ k2 h2
  have hln := len_listL he hG n _ (hG r hr).lt
  have hlt := (goes_listL he hG n _ (hG r hr).lt).lt
  have hfw := hT.few
  obtain ⟨m1, m2⟩ := ok_listed (by omega) hw (by show lenL (listL T S n (S r).1).2 + 1 ≤ 10000; omega)
  refine ⟨k1, m1, ?_⟩
  have e : (listP T S n r).2 = listed (cons (S r).2 (listL T S n (S r).1).2) := rfl
  rw [e, m2]
  exact k3.app h3
theorem ok_index (he : Ends T) {S : Pr} (hS : Ok T 0 S) : ∀ r, r.next < T.length → (indexP T S r).1.code = 0 → r.code = 0 ∧ Ws 0 (indexP T S r).2 ∧ Sg T r.next (indexP T S r).1.next (ps (indexP T S r).2) := by
  intro r hr hc
  obtain ⟨o1, o2, o3⟩ := opened_next he hr (show oneOf [16] 0 = false by decide)
  obtain ⟨h1, h2⟩ := shut_ok hc
  obtain ⟨k1, k2, k3⟩ := hS _ o2 h1
  obtain ⟨m1, m2⟩ := opened_ok k1
  exact ⟨m1, k2, k3.mono o1 (by show _ ≤ (Rd.shut T _ 17).next; rw [h2]; omega)⟩
theorem ok_args (hT : Small T) (he : Ends T) {S : Pr} (hG : Goes T S) (hS : Ok T 0 S) (n : Nat) : ∀ r, r.next < T.length → (argsP T S n r).1.code = 0 → r.code = 0 ∧ Ws 3 (argsP T S n r).2 ∧ Sg T r.next (argsP T S n r).1.next (ps (argsP T S n r).2) := by
  intro r hr hc
  obtain ⟨o1, o2, o3⟩ := opened_next he hr (show oneOf [12] 0 = false by decide)
  unfold argsP at hc ⊢
  by_cases hs : stands T (r.opened T [12]) [13] = true
  · rw [if_pos hs] at hc ⊢
    obtain ⟨h1, h2⟩ := shut_ok hc
    obtain ⟨m1, m2⟩ := opened_ok h1
    exact ⟨m1, by unfold Ws nilOk; omega, Sg.nil (by show _ ≤ (Rd.shut T _ 13).next; rw [h2]; omega)⟩
  · rw [if_neg hs] at hc ⊢
    obtain ⟨h1, h2⟩ := shut_ok hc
    obtain ⟨k1, k2, k3⟩ := ok_list hT he (s := 0) (s2 := 3) rfl (by omega) hG hS n _ o2 h1
    obtain ⟨m1, m2⟩ := opened_ok k1
    exact ⟨m1, k2, k3.mono o1 (by show _ ≤ (Rd.shut T _ 13).next; rw [h2]; omega)⟩
/-- A part behind its own word. -/
theorem ok_named (hT : Small T) (he : Ends T) {S : Pr} (hG : Goes T S) (hS : Ok T 0 S) (n i : Nat) : ∀ r, r.next < T.length → r.next = i + 1 → (namedP T S n (tokAt T i) r).1.code = 0 → r.code = 0 ∧ Ws 0 (namedP T S n (tokAt T i) r).2 ∧ Sg T i (namedP T S n (tokAt T i) r).1.next (ps (namedP T S n (tokAt T i) r).2) := by
  intro r hr hi hc
  unfold namedP at hc ⊢
  by_cases h1 : stands T r [16] = true
  · rw [if_pos h1] at hc ⊢
    obtain ⟨k1, k2, k3⟩ := ok_index he hS r hr hc
    refine ⟨k1, Ws.of (x := 0) (y := 99) rfl (OkA.mk_ (.inr ⟨i, rfl⟩) hT (by simp) (by simp) (by simp) (by simp) (by simp)) k2 Ws.nil99, ?_⟩
    rw [hi] at k3
    have := (Sg.one i).app k3
    simpa [ps, mk, named] using this
  · rw [if_neg h1] at hc ⊢
    by_cases h2 : stands T r [12] = true
    · rw [if_pos h2] at hc ⊢
      obtain ⟨k1, k2, k3⟩ := ok_args hT he hG hS n r hr hc
      refine ⟨k1, Ws.of (x := 3) (y := 99) rfl (OkA.mk_ (.inr ⟨i, rfl⟩) hT (by simp) (by simp) (by simp) (by simp) (by simp)) k2 Ws.nil99, ?_⟩
      rw [hi] at k3
      have := (Sg.one i).app k3
      simpa [ps, mk, named] using this
    · rw [if_neg h2] at hc ⊢
      refine ⟨hc, Ws.of (x := 99) (y := 99) rfl (OkA.mk_ (.inr ⟨i, rfl⟩) hT (by simp) (by simp) (by simp) (by simp) (by simp)) Ws.nil99 Ws.nil99, ?_⟩
      have := Sg.one (T := T) i
      rw [← hi] at this
      simpa [ps, mk, named, variable_] using this
theorem ok_factor (hT : Small T) (he : Ends T) {S F : Pr} (hG : Goes T S) (hS : Ok T 0 S) (hF : Ok T 0 F) (n : Nat) : Ok T 0 (factorP T S F n) := by
  intro r hr hc
  have a1 := adv_take he hr (show oneOf facOps 0 = false by decide)
  obtain ⟨d1, d2, d3⟩ := deeper_next a1.lt (took T r facOps).pos
  unfold factorP at hc ⊢
  dsimp only at hc ⊢
  by_cases k2 : (took T r facOps).kind = 2
  · rw [if_pos k2] at hc ⊢
    obtain ⟨h5, h6, h7, h8⟩ := take_ok hc
    have hv := hT.at r.next
    refine ⟨h5, Ws.of (x := 99) (y := 99) rfl (OkA.mk_ (.inl rfl) hT (by rw [h8]; constructor <;> simp <;> omega) (by simp) (by simp) (by simp) (by simp)) Ws.nil99 Ws.nil99, Sg.nil (by simp only; omega)⟩
  rw [if_neg k2] at hc ⊢
  by_cases k12 : (took T r facOps).kind = 12
  · rw [if_pos k12] at hc ⊢
    obtain ⟨h1, h2⟩ := shut_ok hc
    obtain ⟨m1, m2, m3⟩ := hS _ d2 h1
    obtain ⟨m4, m5⟩ := deeper_ok m1
    obtain ⟨h5, h6, h7, h8⟩ := take_ok m4
    refine ⟨h5, Ws.of (x := 0) (y := 99) rfl (OkA.mk_ (.inl rfl) hT (by simp) (by simp) (by simp) (by simp) (by simp)) m2 Ws.nil99, ?_⟩
    have := m3.mono (i' := r.next) (j' := (Rd.shut T (S (Rd.deeper T.length (r.take T facOps) (took T r facOps).pos)).1 13).next) (by omega) (by rw [h2]; omega)
    simpa [ps, mk, named] using this
  rw [if_neg k12] at hc ⊢
  by_cases k28 : (took T r facOps).kind = 28
  · rw [if_pos k28] at hc ⊢
    obtain ⟨m1, m2, m3⟩ := hF _ d2 hc
    obtain ⟨m4, m5⟩ := deeper_ok m1
    obtain ⟨h5, h6, h7, h8⟩ := take_ok m4
    refine ⟨h5, Ws.of (x := 0) (y := 99) rfl (OkA.mk_ (.inl rfl) hT (by simp) (by simp) (by simp) (by simp) (by simp)) m2 Ws.nil99, ?_⟩
    have := m3.mono (i' := r.next) (by omega) (Nat.le_refl _)
    simpa [ps, mk, named] using this
  rw [if_neg k28] at hc ⊢
  have hc0 : (r.take T facOps).code = 0 ∨ (r.take T facOps).code ≠ 0 := Decidable.em _
  have key : (r.take T facOps).code = 0 := by
    rcases hc0 with h | h
    · exact h
    · exfalso
      -- what is behind a name does not take a fault away
      unfold namedP at hc
      revert hc
      split
      · intro hc; exact h (ok_index he hS _ a1.lt hc).1
      · split
        · intro hc; exact h (ok_args hT he hG hS n _ a1.lt hc).1
        · intro hc; exact h hc
  obtain ⟨h5, h6, h7, h8⟩ := take_ok key
  rw [h8] at hc ⊢
  obtain ⟨q1, q2, q3⟩ := ok_named hT he hG hS n r.next _ a1.lt h7 hc
  exact ⟨h5, q2, q3⟩
theorem ok_atom (hT : Small T) (he : Ends T) : Ok T 21 (atomP T) := by
  intro r hr hc
  have a1 := adv_take he hr (show oneOf [28, 2, 1] 0 = false by decide)
  unfold atomP at hc ⊢
  dsimp only at hc ⊢
  by_cases k28 : (took T r [28, 2, 1]).kind = 28
  · rw [if_pos k28] at hc ⊢
    obtain ⟨m5, m6, m7, m8⟩ := take_ok hc
    obtain ⟨h5, h6, h7, h8⟩ := take_ok m5
    have hv := hT.at (r.take T [28, 2, 1]).next
    exact ⟨h5, Ws.of (x := 99) (y := 99) rfl (OkA.mk_ (.inl rfl) hT (by rw [m8]; constructor <;> simp <;> omega) (by simp) (by simp) (by simp) (by simp)) Ws.nil99 Ws.nil99, Sg.nil (by simp only; omega)⟩
  rw [if_neg k28] at hc ⊢
  by_cases k2 : (took T r [28, 2, 1]).kind = 2
  · rw [if_pos k2] at hc ⊢
    obtain ⟨h5, h6, h7, h8⟩ := take_ok hc
    have hv := hT.at r.next
    exact ⟨h5, Ws.of (x := 99) (y := 99) rfl (OkA.mk_ (.inl rfl) hT (by rw [h8]; constructor <;> simp <;> omega) (by simp) (by simp) (by simp) (by simp)) Ws.nil99 Ws.nil99, Sg.nil (by simp only; omega)⟩
  rw [if_neg k2] at hc ⊢
  obtain ⟨h5, h6, h7, h8⟩ := take_ok hc
  refine ⟨h5, Ws.of (x := 99) (y := 99) rfl (OkA.mk_ (.inr ⟨r.next, by rw [h8]⟩) hT (by simp) (by simp) (by simp) (by simp) (by simp)) Ws.nil99 Ws.nil99, ?_⟩
  have := Sg.one (T := T) r.next
  rw [← h7] at this
  simpa [ps, mk, named, variable_, h8] using this
theorem ok_rel (hT : Small T) (he : Ends T) : Ok T 20 (relP T) := ok_compare hT he 21 20 (.inr ⟨rfl, rfl⟩) (goes_atom he) (ok_atom hT he)
theorem ok_value {S : Pr} {s : Nat} (hS : Ok T s S) : Ok T s (valueP T S) := by
  intro r hr hc
  obtain ⟨h5, h6, h7, h8⟩ := take_ok hc
  obtain ⟨m1, m2, m3⟩ := hS r hr h5
  exact ⟨m1, m2, m3.mono (Nat.le_refl _) (by show _ ≤ (Rd.take T _ _).next; rw [h7]; omega)⟩
theorem ok_set (hT : Small T) (he : Ends T) {S : Pr} (hS : Ok T 0 S) (q : Bool) (i : Nat) : ∀ r, r.next < T.length → r.next = i + 1 → (setP T S (tokAt T i) q r).1.code = 0 → r.code = 0 ∧ Ws 2 (setP T S (tokAt T i) q r).2 ∧ Sg T i (setP T S (tokAt T i) q r).1.next (ps (setP T S (tokAt T i) q r).2) := by
  intro r hr hi hc
  have a1 := adv_take he hr (show oneOf [20] 0 = false by decide)
  obtain ⟨m1, m2, m3⟩ := ok_value hS _ a1.lt hc
  obtain ⟨h5, h6, h7, h8⟩ := take_ok m1
  refine ⟨h5, Ws.of (x := 0) (y := 99) rfl (OkA.mk_ (.inr ⟨i, rfl⟩) hT (by simp) (by simp) (by simp) (by simp) (by simp)) m2 Ws.nil99, ?_⟩
  have := (Sg.one i).app (m3.mono (i' := i + 1) (by omega) (Nat.le_refl _))
  simpa [ps, mk, named, setP] using this
theorem ok_store (hT : Small T) (he : Ends T) {S : Pr} (hG : Goes T S) (hS : Ok T 0 S) (i : Nat) : ∀ r, r.next < T.length → r.next = i + 1 → (storeP T S (tokAt T i) r).1.code = 0 → r.code = 0 ∧ Ws 2 (storeP T S (tokAt T i) r).2 ∧ Sg T i (storeP T S (tokAt T i) r).1.next (ps (storeP T S (tokAt T i) r).2) := by
  intro r hr hi hc
  have a1 := goes_index he hG r hr
  have a2 := adv_take he a1.lt (show oneOf [20] 0 = false by decide)
  unfold storeP at hc ⊢
  dsimp only at hc ⊢
  obtain ⟨m1, m2, m3⟩ := ok_value hS _ a2.lt hc
  obtain ⟨h5, h6, h7, h8⟩ := take_ok m1
  obtain ⟨k1, k2, k3⟩ := ok_index he hS r hr h5
  refine ⟨k1, Ws.of (x := 0) (y := 0) rfl (OkA.mk_ (.inr ⟨i, rfl⟩) hT (by simp) (by simp) (by simp) (by simp) (by simp)) k2 m2, ?_⟩
  rw [h7] at m3
  rw [hi] at k3
  have := ((Sg.one i).app k3).app (m3.mono (i' := (indexP T S r).1.next) (by omega) (Nat.le_refl _))
  simpa [ps, mk, named, List.append_assoc] using this
theorem ok_blockL {S : Pr} (hG : Goes T S) (hS : Ok T 2 S) : ∀ n r, r.next < T.length → (blockL T S n r).1.code = 0 → r.code = 0 ∧ Ws 14 (blockL T S n r).2 ∧ Sg T r.next (blockL T S n r).1.next (ps (blockL T S n r).2) := by
  intro n
  induction n with
  | zero => intro r _ hc; exact ⟨hc, by unfold blockL Ws nilOk; omega, Sg.nil (Nat.le_refl _)⟩
  | succ n ih =>
    intro r hr hc
    unfold blockL at hc ⊢
    by_cases hs : stands T r [15, 0] = true
    · rw [if_pos hs] at hc ⊢
      exact ⟨hc, by unfold Ws nilOk; omega, Sg.nil (Nat.le_refl _)⟩
    · rw [if_neg hs] at hc ⊢
      have a2 := hG _ hr
      obtain ⟨h1, h2, h3⟩ := ih _ a2.lt hc
      obtain ⟨k1, k2, k3⟩ := hS _ hr h1
      exact ⟨k1, Ws.of (x := 2) (y := 14) rfl ⟨by decide, by simp, by simp, by simp, by simp, by simp⟩ k2 h2, k3.app h3⟩
/-- A part takes a word at least. -/
def Takes (T : List Tok) (S : Pr) : Prop := ∀ r, r.next < T.length → (S r).1.code = 0 → r.next < (S r).1.next
theorem len_blockL {S : Pr} (hG : Goes T S) (hS : Ok T 2 S) (hA : Takes T S) : ∀ n r, r.next < T.length → (blockL T S n r).1.code = 0 → lenL (blockL T S n r).2 + r.next ≤ (blockL T S n r).1.next := by
  intro n
  induction n with
  | zero => intro r _ _; show 0 + r.next ≤ r.next; omega
  | succ n ih =>
    intro r hr hc
    have hall := ok_blockL hG hS (n + 1) r hr hc
    unfold blockL at hc ⊢
    by_cases hs : stands T r [15, 0] = true
    · rw [if_pos hs] at hc ⊢; show 0 + r.next ≤ r.next; omega
    · rw [if_neg hs] at hc ⊢
      have a2 := hG _ hr
      have h1 := ih _ a2.lt hc
      have h2 := hA _ hr (ok_blockL hG hS n _ a2.lt hc).1
      show lenL (blockL T S n (S r).1).2 + 1 + r.next ≤ _
      dsimp only
      omega
theorem goes_blockL_ {S : Pr} (hS : Goes T S) (n : Nat) (r : Rd) (h : r.next < T.length) : Adv T r (blockL T S n r).1 := goes_blockL hS n r h
theorem ok_block (hT : Small T) (he : Ends T) {S : Pr} (hG : Goes T S) (hS : Ok T 2 S) (hA : Takes T S) (n : Nat) : Ok T 4 (blockP T S n) := by
  intro r hr hc
  obtain ⟨o1, o2, o3⟩ := opened_next he hr (show oneOf [14] 0 = false by decide)
  obtain ⟨h1, h2⟩ := shut_ok hc
  obtain ⟨k1, k2, k3⟩ := ok_blockL hG hS n _ o2 h1
  obtain ⟨m1, m2⟩ := opened_ok k1
  have hln := len_blockL hG hS hA n _ o2 h1
  have hlt := (goes_blockL_ hG n _ o2).lt
  have hfw := hT.few
  obtain ⟨m3, m4⟩ := ok_listed (s := 4) (by omega) k2 (by omega)
  refine ⟨m1, m3, ?_⟩
  show Sg T _ _ (ps (listed _))
  rw [m4]
  exact k3.mono o1 (by show _ ≤ (Rd.shut T _ 15).next; rw [h2]; omega)
theorem ok_if (hT : Small T) (he : Ends T) {C B : Pr} (hGC : Goes T C) (hC : Ok T 1 C) (hGB : Goes T B) (hB : Ok T 4 B) : Ok T 2 (ifP T C B) := by
  intro r hr hc
  have a1 := hGC r hr
  have a2 := hGB _ a1.lt
  have a3 := adv_skips he a2.lt (show oneOf [8] 0 = false by decide)
  unfold ifP at hc ⊢
  dsimp only at hc ⊢
  by_cases hs : stands T (B (C r).1).1 [8] = true
  · rw [if_pos hs] at hc ⊢
    obtain ⟨h1, h2, h3⟩ := hB _ a3.lt hc
    obtain ⟨k1, k2, k3⟩ := hB _ a1.lt (skips_ok h1)
    obtain ⟨m1, m2, m3⟩ := hC r hr k1
    refine ⟨m1, Ws.of (x := 1) (y := 9) rfl (OkA.mk_ (.inl rfl) hT (by simp) (by simp) (by simp) (by simp) (by simp)) m2 (Ws.of (x := 4) (y := 4) rfl (OkA.mk_ (.inl rfl) hT (by simp) (by simp) (by simp) (by simp) (by simp)) k2 h2), ?_⟩
    have := (m3.app k3).app (h3.mono (skips_le _ _) (Nat.le_refl _))
    simpa [ps, mk, named, List.append_assoc] using this
  · rw [if_neg hs] at hc ⊢
    obtain ⟨k1, k2, k3⟩ := hB _ a1.lt hc
    obtain ⟨m1, m2, m3⟩ := hC r hr k1
    refine ⟨m1, Ws.of (x := 1) (y := 9) rfl (OkA.mk_ (.inl rfl) hT (by simp) (by simp) (by simp) (by simp) (by simp)) m2 (Ws.of (x := 4) (y := 4) rfl (OkA.mk_ (.inl rfl) hT (by simp) (by simp) (by simp) (by simp) (by simp)) k2 (by unfold Ws nilOk; omega)), ?_⟩
    have := m3.app k3
    simpa [ps, mk, named, List.append_assoc] using this
theorem ok_stmt (hT : Small T) (he : Ends T) {S C B : Pr} (hG : Goes T S) (hS : Ok T 0 S) (hGC : Goes T C) (hC : Ok T 1 C) (hGB : Goes T B) (hB : Ok T 4 B) : Ok T 2 (stmtP T S C B) := by
  intro r hr hc
  have a1 := adv_take he hr (show oneOf stmtOps 0 = false by decide)
  unfold stmtP at hc ⊢
  dsimp only at hc ⊢
  by_cases k6 : (took T r stmtOps).kind = 6
  · rw [if_pos k6] at hc ⊢
    have a2 := adv_take he a1.lt (show oneOf [1] 0 = false by decide)
    have key : ((r.take T stmtOps).take T [1]).code = 0 := by
      obtain ⟨m1, _, _⟩ := ok_value hS _ (adv_take he a2.lt (show oneOf [20] 0 = false by decide)).lt hc
      exact (take_ok m1).1
    obtain ⟨m5, m6, m7, m8⟩ := take_ok key
    obtain ⟨h5, h6, h7, h8⟩ := take_ok m5
    rw [m8] at hc ⊢
    obtain ⟨q1, q2, q3⟩ := ok_set hT he hS true _ _ a2.lt m7 hc
    exact ⟨h5, q2, q3.mono (by omega) (Nat.le_refl _)⟩
  rw [if_neg k6] at hc ⊢
  by_cases k7 : (took T r stmtOps).kind = 7
  · rw [if_pos k7] at hc ⊢
    obtain ⟨q1, q2, q3⟩ := ok_if hT he hGC hC hGB hB _ a1.lt hc
    obtain ⟨h5, h6, h7, h8⟩ := take_ok q1
    exact ⟨h5, q2, q3.mono (by omega) (Nat.le_refl _)⟩
  rw [if_neg k7] at hc ⊢
  by_cases k9 : (took T r stmtOps).kind = 9
  · rw [if_pos k9] at hc ⊢
    have a2 := hGC _ a1.lt
    obtain ⟨q1, q2, q3⟩ := hB _ a2.lt hc
    obtain ⟨p1, p2, p3⟩ := hC _ a1.lt q1
    obtain ⟨h5, h6, h7, h8⟩ := take_ok p1
    refine ⟨h5, Ws.of (x := 1) (y := 4) rfl (OkA.mk_ (.inl rfl) hT (by simp) (by simp) (by simp) (by simp) (by simp)) p2 q2, ?_⟩
    have := (p3.app q3).mono (i' := r.next) (by omega) (Nat.le_refl _)
    simpa [ps, mk, named, List.append_assoc] using this
  rw [if_neg k9] at hc ⊢
  by_cases k10 : (took T r stmtOps).kind = 10
  · rw [if_pos k10] at hc ⊢
    obtain ⟨q1, q2, q3⟩ := ok_value hS _ a1.lt hc
    obtain ⟨h5, h6, h7, h8⟩ := take_ok q1
    refine ⟨h5, Ws.of (x := 0) (y := 99) rfl (OkA.mk_ (.inl rfl) hT (by simp) (by simp) (by simp) (by simp) (by simp)) q2 Ws.nil99, ?_⟩
    have := q3.mono (i' := r.next) (by omega) (Nat.le_refl _)
    simpa [ps, mk, named, List.append_assoc] using this
  rw [if_neg k10] at hc ⊢
  by_cases k11 : (took T r stmtOps).kind = 11
  · rw [if_pos k11] at hc ⊢
    obtain ⟨q1, q2, q3⟩ := ok_value hS _ a1.lt hc
    obtain ⟨h5, h6, h7, h8⟩ := take_ok q1
    refine ⟨h5, Ws.of (x := 0) (y := 99) rfl (OkA.mk_ (.inl rfl) hT (by simp) (by simp) (by simp) (by simp) (by simp)) q2 Ws.nil99, ?_⟩
    have := q3.mono (i' := r.next) (by omega) (Nat.le_refl _)
    simpa [ps, mk, named, List.append_assoc] using this
  rw [if_neg k11] at hc ⊢
  by_cases k16 : stands T (r.take T stmtOps) [16] = true
  · rw [if_pos k16] at hc ⊢
    have key : (r.take T stmtOps).code = 0 := by
      have b1 := goes_index he hG _ a1.lt
      obtain ⟨m1, _, _⟩ := ok_value hS _ (adv_take he b1.lt (show oneOf [20] 0 = false by decide)).lt hc
      exact (ok_index he hS _ a1.lt (take_ok m1).1).1
    obtain ⟨h5, h6, h7, h8⟩ := take_ok key
    rw [h8] at hc ⊢
    obtain ⟨q1, q2, q3⟩ := ok_store hT he hG hS _ _ a1.lt h7 hc
    exact ⟨h5, q2, q3⟩
  · rw [if_neg k16] at hc ⊢
    have key : (r.take T stmtOps).code = 0 := by
      obtain ⟨m1, _, _⟩ := ok_value hS _ (adv_take he a1.lt (show oneOf [20] 0 = false by decide)).lt hc
      exact (take_ok m1).1
    obtain ⟨h5, h6, h7, h8⟩ := take_ok key
    rw [h8] at hc ⊢
    obtain ⟨q1, q2, q3⟩ := ok_set hT he hS false _ _ a1.lt h7 hc
    exact ⟨h5, q2, q3⟩

theorem stmt_code (hT : Small T) (he : Ends T) {S C B : Pr} (hG : Goes T S) (hS : Ok T 0 S) (hGC : Goes T C) (hC : Ok T 1 C) (hGB : Goes T B) (hB : Ok T 4 B) {r : Rd} (hr : r.next < T.length) (hc : (stmtP T S C B r).1.code = 0) : (r.take T stmtOps).code = 0 := by
  have a1 := adv_take he hr (show oneOf stmtOps 0 = false by decide)
  unfold stmtP at hc
  dsimp only at hc
  by_cases k6 : (took T r stmtOps).kind = 6
  · rw [if_pos k6] at hc
    have a2 := adv_take he a1.lt (show oneOf [1] 0 = false by decide)
    obtain ⟨m1, _, _⟩ := ok_value hS _ (adv_take he a2.lt (show oneOf [20] 0 = false by decide)).lt hc
    exact (take_ok (take_ok m1).1).1
  rw [if_neg k6] at hc
  by_cases k7 : (took T r stmtOps).kind = 7
  · rw [if_pos k7] at hc
    exact (ok_if hT he hGC hC hGB hB _ a1.lt hc).1
  rw [if_neg k7] at hc
  by_cases k9 : (took T r stmtOps).kind = 9
  · rw [if_pos k9] at hc
    exact (hC _ a1.lt (hB _ (hGC _ a1.lt).lt hc).1).1
  rw [if_neg k9] at hc
  by_cases k10 : (took T r stmtOps).kind = 10
  · rw [if_pos k10] at hc
    exact (ok_value hS _ a1.lt hc).1
  rw [if_neg k10] at hc
  by_cases k11 : (took T r stmtOps).kind = 11
  · rw [if_pos k11] at hc
    exact (ok_value hS _ a1.lt hc).1
  rw [if_neg k11] at hc
  by_cases k16 : stands T (r.take T stmtOps) [16] = true
  · rw [if_pos k16] at hc
    have b1 := goes_index he hG _ a1.lt
    obtain ⟨m1, _, _⟩ := ok_value hS _ (adv_take he b1.lt (show oneOf [20] 0 = false by decide)).lt hc
    exact (ok_index he hS _ a1.lt (take_ok m1).1).1
  · rw [if_neg k16] at hc
    obtain ⟨m1, _, _⟩ := ok_value hS _ (adv_take he a1.lt (show oneOf [20] 0 = false by decide)).lt hc
    exact (take_ok m1).1
theorem takes_stmt (hT : Small T) (he : Ends T) {S C B : Pr} (hG : Goes T S) (hS : Ok T 0 S) (hGC : Goes T C) (hC : Ok T 1 C) (hGB : Goes T B) (hB : Ok T 4 B) : Takes T (stmtP T S C B) := by
  intro r hr hc
  have a1 := adv_take he hr (show oneOf stmtOps 0 = false by decide)
  have h1 := (take_ok (stmt_code hT he hG hS hGC hC hGB hB hr hc)).2.2.1
  have hgo : Adv T (r.take T stmtOps) (stmtP T S C B r).1 := by
    unfold stmtP
    dsimp only
    split
    · have a2 := adv_take he a1.lt (show oneOf [1] 0 = false by decide)
      exact a2.trans (goes_set he hG _ _ _ a2.lt)
    split
    · exact goes_if he hGC hGB _ a1.lt
    split
    · exact (hGC _ a1.lt).trans (hGB _ (hGC _ a1.lt).lt)
    split
    · exact goes_value he hG _ a1.lt
    split
    · exact goes_value he hG _ a1.lt
    split
    · exact goes_store he hG _ _ a1.lt
    · exact goes_set he hG _ _ _ a1.lt
  have := hgo.ge
  omega

/-- Which place a part of the reader fills. -/
def placeOf (s : Nat) : Nat := if s < 3 then 0 else if s < 6 then 1 else if s = 6 then 4 else 2
theorem ok_parse_ (hT : Small T) (he : Ends T) : ∀ n, (∀ s, Ok T (placeOf s) (parse T n s)) ∧ Takes T (parse T n 7) := by
  intro n
  induction n with
  | zero => exact ⟨fun s r _ hc => absurd hc (fail_code (by decide)), fun r _ hc => absurd hc (fail_code (by decide))⟩
  | succ n ih =>
    obtain ⟨ih, it⟩ := ih
    have hg := goes_parse he n
    refine ⟨fun s => ?_, takes_stmt hT he (hg 2) (ih 2) (hg 5) (ih 5) (hg 6) (ih 6)⟩
    match s with
    | 0 => exact ok_factor hT he (hg 2) (ih 2) (ih 0) n
    | 1 => exact ok_chain hT he (hg 0) (ih 0) (by decide) (by decide) n
    | 2 => exact ok_chain hT he (hg 1) (ih 1) (by decide) (by decide) n
    | 3 => exact ok_compare hT he 0 1 (.inl ⟨rfl, rfl⟩) (hg 2) (ih 2)
    | 4 => exact ok_logic hT he (hg 3) (ih 3) (.inl rfl) (by decide) n
    | 5 => exact ok_logic hT he (hg 4) (ih 4) (.inr rfl) (by decide) n
    | 6 => exact ok_block hT he (hg 7) (ih 7) it n
    | s + 7 => exact ok_stmt hT he (hg 2) (ih 2) (hg 5) (ih 5) (hg 6) (ih 6)
theorem ok_parse (hT : Small T) (he : Ends T) (n s : Nat) : Ok T (placeOf s) (parse T n s) := (ok_parse_ hT he n).1 s

theorem ok_param (hT : Small T) (_he : Ends T) : Ok T 22 (paramP T) := by
  intro r hr hc
  obtain ⟨h5, h6, h7, h8⟩ := take_ok hc
  refine ⟨h5, Ws.of (x := 99) (y := 99) rfl (OkA.mk_ (.inr ⟨r.next, by rw [h8]⟩) hT (by simp) (by simp) (by simp) (by simp) (by simp)) Ws.nil99 Ws.nil99, ?_⟩
  have := Sg.one (T := T) r.next
  rw [← h7] at this
  simpa [ps, mk, named, paramP, h8] using this
theorem ok_array (hT : Small T) (he : Ends T) : Ok T 7 (arrayP T) := by
  intro r hr hc
  have a1 := adv_take he hr (show oneOf [1] 0 = false by decide)
  unfold arrayP at hc ⊢
  dsimp only at hc ⊢
  obtain ⟨l5, l6, l7, l8⟩ := take_ok hc
  obtain ⟨m5, m6, m7, m8⟩ := take_ok l5
  obtain ⟨h5, h6, h7, h8⟩ := take_ok m5
  have hv := hT.at (r.take T [1]).next
  refine ⟨h5, Ws.of (x := 99) (y := 99) rfl (OkA.mk_ (.inr ⟨r.next, by rw [h8]⟩) hT (by rw [m8]; constructor <;> simp <;> omega) (fun _ => by rw [m8]; exact hv.2.1) (by simp) (by simp) (by simp)) Ws.nil99 Ws.nil99, ?_⟩
  have := (Sg.one (T := T) r.next).mono (Nat.le_refl _) (j' := (((r.take T [1]).take T [2]).take T [19]).next) (by omega)
  simpa [ps, mk, named, h8] using this
theorem ok_params (hT : Small T) (he : Ends T) (n : Nat) : Ok T 6 (paramsP T n) := by
  intro r hr hc
  unfold paramsP at hc ⊢
  by_cases hs : stands T r [1] = true
  · rw [if_pos hs] at hc ⊢
    exact ok_list hT he (s := 22) (s2 := 6) rfl (by omega) (goes_param he) (ok_param hT he) n r hr hc
  · rw [if_neg hs] at hc ⊢
    exact ⟨hc, by unfold Ws nilOk; omega, Sg.nil (Nat.le_refl _)⟩
theorem ok_wheres (hT : Small T) (he : Ends T) (n : Nat) : Ok T 5 (wheresP T n) := by
  intro r hr hc
  unfold wheresP at hc ⊢
  by_cases hs : stands T r [5] = true
  · rw [if_pos hs] at hc ⊢
    have a := adv_skips he hr (show oneOf [5] 0 = false by decide)
    obtain ⟨k1, k2, k3⟩ := ok_list hT he (s := 20) (s2 := 5) rfl (by omega) (goes_rel he) (ok_rel hT he) n _ a.lt hc
    exact ⟨skips_ok k1, k2, k3.mono (skips_le _ _) (Nat.le_refl _)⟩
  · rw [if_neg hs] at hc ⊢
    exact ⟨hc, by unfold Ws nilOk; omega, Sg.nil (Nat.le_refl _)⟩
theorem ok_function (hT : Small T) (he : Ends T) {B : Pr} (_hGB : Goes T B) (hB : Ok T 4 B) (n : Nat) : Ok T 7 (functionP T B n) := by
  intro r hr hc
  have a1 := adv_take he hr (show oneOf [1] 0 = false by decide)
  obtain ⟨o1, o2, o3⟩ := opened_next he a1.lt (show oneOf [12] 0 = false by decide)
  rw [functionP_eq] at hc ⊢
  dsimp only at hc ⊢
  have p1 := goes_params he n _ o2
  have a2 := adv_shut he o1 o3 p1 (show oneOf [13] 0 = false by decide)
  have w1 := goes_wheres he n _ a2.lt
  obtain ⟨b1, b2, b3⟩ := hB _ w1.lt hc
  obtain ⟨w3, w4, w5⟩ := ok_wheres hT he n _ a2.lt b1
  obtain ⟨s1, s2⟩ := shut_ok w3
  obtain ⟨p3, p4, p5⟩ := ok_params hT he n _ o2 s1
  obtain ⟨m1, m2⟩ := opened_ok p3
  obtain ⟨h5, h6, h7, h8⟩ := take_ok m1
  refine ⟨h5, Ws.of (x := 6) (y := 23) rfl (OkA.mk_ (.inr ⟨r.next, by rw [h8]⟩) hT (by simp) (by simp) (by simp) (by simp) (by simp)) p4 (Ws.of (x := 5) (y := 4) rfl (OkA.mk_ (.inl rfl) hT (by simp) (by simp) (by simp) (by simp) (by simp)) w4 b2), ?_⟩
  have := (((Sg.one (T := T) r.next).app (p5.mono (i' := r.next + 1) (by omega) (Nat.le_refl _))).app (w5.mono (i' := (paramsP T n ((r.take T [1]).opened T [12])).1.next) (by omega) (Nat.le_refl _))).app b3
  simpa [ps, mk, named, h8, List.append_assoc] using this
theorem ok_programL (hT : Small T) (he : Ends T) {B : Pr} (hGB : Goes T B) (hB : Ok T 4 B) (m : Nat) : ∀ n r, r.next < T.length → (programL T B m n r).1.code = 0 → r.code = 0 ∧ Ws 18 (programL T B m n r).2 ∧ Sg T r.next (programL T B m n r).1.next (ps (programL T B m n r).2) := by
  intro n
  induction n with
  | zero => intro r _ hc; exact ⟨hc, by unfold programL Ws nilOk; omega, Sg.nil (Nat.le_refl _)⟩
  | succ n ih =>
    intro r hr hc
    unfold programL at hc ⊢
    dsimp only at hc ⊢
    by_cases hs : stands T r [0] = true
    · rw [if_pos hs] at hc ⊢
      exact ⟨hc, by unfold Ws nilOk; omega, Sg.nil (Nat.le_refl _)⟩
    rw [if_neg hs] at hc ⊢
    have a1 := adv_take he hr (show oneOf [3, 4] 0 = false by decide)
    by_cases k3 : (took T r [3, 4]).kind = 3
    · rw [if_pos k3] at hc ⊢
      have a2 := goes_array he _ a1.lt
      obtain ⟨q1, q2, q3⟩ := ih _ a2.lt hc
      obtain ⟨p1, p2, p3⟩ := ok_array hT he _ a1.lt q1
      obtain ⟨h5, h6, h7, h8⟩ := take_ok p1
      exact ⟨h5, Ws.of (x := 7) (y := 18) rfl ⟨by decide, by simp, by simp, by simp, by simp, by simp⟩ p2 q2, (p3.app q3).mono (by omega) (Nat.le_refl _)⟩
    rw [if_neg k3] at hc ⊢
    by_cases k4 : (took T r [3, 4]).kind = 4
    · rw [if_pos k4] at hc ⊢
      have a2 := goes_function he hGB m _ a1.lt
      obtain ⟨q1, q2, q3⟩ := ih _ a2.lt hc
      obtain ⟨p1, p2, p3⟩ := ok_function hT he hGB hB m _ a1.lt q1
      obtain ⟨h5, h6, h7, h8⟩ := take_ok p1
      exact ⟨h5, Ws.of (x := 7) (y := 18) rfl ⟨by decide, by simp, by simp, by simp, by simp, by simp⟩ p2 q2, (p3.app q3).mono (by omega) (Nat.le_refl _)⟩
    · rw [if_neg k4] at hc ⊢
      obtain ⟨q1, q2, q3⟩ := ih _ a1.lt hc
      obtain ⟨h5, h6, h7, h8⟩ := take_ok q1
      exact ⟨h5, q2, q3.mono (by omega) (Nat.le_refl _)⟩
theorem goes_programL (_hT : Small T) (he : Ends T) {B : Pr} (hGB : Goes T B) (m : Nat) : ∀ n r, r.next < T.length → Adv T r (programL T B m n r).1 := by
  intro n
  induction n with
  | zero => intro r hr; exact Adv.refl hr
  | succ n ih =>
    intro r hr
    unfold programL
    dsimp only
    have a1 := adv_take he hr (show oneOf [3, 4] 0 = false by decide)
    split
    · exact Adv.refl hr
    split
    · have a2 := a1.trans (goes_array he _ a1.lt)
      exact a2.trans (ih _ a2.lt)
    split
    · have a2 := a1.trans (goes_function he hGB m _ a1.lt)
      exact a2.trans (ih _ a2.lt)
    · exact a1.trans (ih _ a1.lt)
theorem len_programL (hT : Small T) (he : Ends T) {B : Pr} (hGB : Goes T B) (hB : Ok T 4 B) (m : Nat) : ∀ n r, r.next < T.length → (programL T B m n r).1.code = 0 → lenL (programL T B m n r).2 + r.next ≤ (programL T B m n r).1.next := by
  intro n
  induction n with
  | zero => intro r _ _; show 0 + r.next ≤ r.next; omega
  | succ n ih =>
    intro r hr hc
    unfold programL at hc ⊢
    dsimp only at hc ⊢
    by_cases hs : stands T r [0] = true
    · rw [if_pos hs] at hc ⊢; show 0 + r.next ≤ r.next; omega
    rw [if_neg hs] at hc ⊢
    have a1 := adv_take he hr (show oneOf [3, 4] 0 = false by decide)
    by_cases k3 : (took T r [3, 4]).kind = 3
    · rw [if_pos k3] at hc ⊢
      have a2 := goes_array he _ a1.lt
      have h1 := ih _ a2.lt hc
      have h2 := (take_ok (ok_array hT he _ a1.lt (ok_programL hT he hGB hB m n _ a2.lt hc).1).1).2.2.1
      have h3 := a2.ge
      show lenL (programL T B m n (arrayP T (r.take T [3, 4])).1).2 + 1 + r.next ≤ _
      dsimp only
      omega
    rw [if_neg k3] at hc ⊢
    by_cases k4 : (took T r [3, 4]).kind = 4
    · rw [if_pos k4] at hc ⊢
      have a2 := goes_function he hGB m _ a1.lt
      have h1 := ih _ a2.lt hc
      have h2 := (take_ok (ok_function hT he hGB hB m _ a1.lt (ok_programL hT he hGB hB m n _ a2.lt hc).1).1).2.2.1
      have h3 := a2.ge
      show lenL (programL T B m n (functionP T B m (r.take T [3, 4])).1).2 + 1 + r.next ≤ _
      dsimp only
      omega
    · rw [if_neg k4] at hc ⊢
      have h1 := ih _ a1.lt hc
      have h3 := a1.ge
      omega
/-- A whole program without a fault. -/
theorem ok_program (hT : Small T) (he : Ends T) (hp : 0 < T.length) (hc : (programP T).1.code = 0) : Ws 8 (programP T).2 ∧ Sg T 0 T.length (ps (programP T).2) := by
  have hg := goes_parse he (fuelOf T) 6
  obtain ⟨_, h2, h3⟩ := ok_programL hT he hg (ok_parse hT he (fuelOf T) 6) (fuelOf T) (fuelOf T) rd0 hp hc
  have hln := len_programL hT he hg (ok_parse hT he (fuelOf T) 6) (fuelOf T) (fuelOf T) rd0 hp hc
  have hlt := (goes_programL hT he hg (fuelOf T) (fuelOf T) rd0 hp).lt
  have hfw := hT.few
  obtain ⟨m1, m2⟩ := ok_listed (s := 8) (by omega) h2 (by omega)
  refine ⟨m1, ?_⟩
  show Sg T _ _ (ps (listed _))
  rw [m2]
  exact h3.mono (Nat.zero_le _) (Nat.le_of_lt (goes_programL hT he hg (fuelOf T) (fuelOf T) rd0 hp).lt)
end Go.Proofs.YtikffmloeifkpaaGreatDoor
