/- The program's contracts, part 4: each says what a function of the program does, for every argument that its premises name. -/
import Derived.Test.YtikffmloeifkpaaGreatDoorM02
import Derived.Test.YtikffmloeifkpaaGreatDoorM03
import Derived.BigQuiet
import Derived.Deep.QuietTactic
/- The cutter of package words: its other methods. -/
namespace Go.Proofs.YtikffmloeifkpaaGreatDoor
open Go.RowKit Go.Lib

theorem Tab.below {b : Nat} {w w' : World} (h : Tab w) (hb : Below b w w') (h0 : 0 < b) : Tab w' := fun i hi => (hb.cell (p := ⟨0, i, none⟩) h0).trans (h i hi)

theorem CutW.below {B b : Nat} {c : Cut} {v : Value} {w w' : World} (h : CutW B b c v w) (hb : Below w.heap.size w w') : CutW B b c v w' := by
  have lg : b < w.heap.size := World.block_lt_of_cell? w _ h.wordsAt
  refine h.kept (hb.block b lg) ⟨h.own.1, ?_⟩
  rcases h.own.2 with h2 | ⟨g, cap, cur, hv, hg, hh, r⟩
  · exact Or.inl h2
  · exact Or.inr ⟨g, cap, cur, hv, hg, (hb.block g (by rcases Nat.lt_or_ge g w.heap.size with h | h; exact h; rw [Array.getElem?_eq_none h] at hh; cases hh)).trans hh, r⟩
theorem Kp.of_below {b : Nat} {w w' : World} (hb : Below w.heap.size w w') (h : b < w.heap.size) : Kp b w w' :=
  ⟨hb.mono (Nat.le_of_lt h), fun k o hk _ _ => (hb.block k (by rcases Nat.lt_or_ge k w.heap.size with h | h; exact h; rw [Array.getElem?_eq_none h] at hk; cases hk)).trans hk⟩

def brokenB (s : ByteArray) (p : Nat) (r : Int) : Bool := decide (r = 65533) && !(Lib.hasPrefix (s.data.toList.drop p) [239, 191, 189])

set_option maxHeartbeats 1000000 in
theorem isBroken_any (B b : Nat) (c : Cut) (v : Value) (p : Nat) (r : Int) (w : World) (h : CutW B b c v w) (hp : p ≤ c.text.size) (_hz : c.text.size ≤ 5000) :
    Calls Tryz.prog 114 #[.pointer (some ⟨b, 0, none⟩), .int .i64 p, .int .i32 r] w fun x w' => x = .returned (.bool (brokenB c.text p r)) ∧ w = w' := by
  have h0 := h.text
  by_cases hr : r = 65533
  · subst hr
    go_enter Tryz.func114, Tryz.ntmps114
    go_wp2_with (go_at_call 179; refine (HasPrefix_any _ _ _).mono ?_; rintro e w' ⟨rfl, rfl⟩)
    go_ret
    refine ⟨ret_bool ?_, rfl⟩
    rw [List.take_of_length_le (by simp)]
    simp [brokenB]
  · have hd : (r == 65533) = false := by simpa using hr
    go_enter Tryz.func114, Tryz.ntmps114
    go_wp2
    go_ret
    exact ⟨ret_bool (by simp [brokenB, hr]), rfl⟩

theorem encode_size (r : Int) : (Utf8.encode r).size ≤ 4 := by
  unfold Utf8.encode
  dsimp only
  repeat' split
  all_goals simp [ByteArray.size]

theorem cut_data (s e : ByteArray) (a b : Nat) : (s.extract a b ++ e).data.toList = (s.data.toList.take b).drop a ++ e.data.toList := by
  rw [ByteArray.data_append, Array.toList_append, ByteArray.data_extract]
  congr 1
  simp [List.drop_take]
theorem CutW.drewN {B b : Nat} {c : Cut} {v : Value} {w : World} (h : CutW B b c v w) (n : Nat) : CutW B b c v (w.drewN n) := h.kept rfl ⟨h.own.1, h.own.2⟩
theorem Kp.drewN (b : Nat) (w : World) (n : Nat) : Kp b w (w.drewN n) := ⟨⟨rfl, rfl, rfl, Nat.le_refl _, fun _ _ => rfl⟩, fun _ _ h _ _ => h⟩

/-- Is the character part of what the cutter is in the midst of? -/
def Cut.goes (c : Cut) (p : Nat) (r : Int) : Bool :=
  if c.mode = 1 then r != 10 && !(brokenB c.text p r)
  else if c.mode = 2 then letterB r || digitB r
  else if c.mode = 3 then digitB r
  else if c.mode = 4 then bsB ((c.text.data.toList.take p).drop c.start.toNat ++ (Utf8.encode r).data.toList)
  else false

set_option maxRecDepth 100000 in
set_option maxHeartbeats 2000000 in
theorem goesOn_any (B b : Nat) (c : Cut) (v : Value) (p : Nat) (r : Int) (w : World) (h : CutW B b c v w) (ht : Tab w) (hp : p ≤ c.text.size) (hz : c.text.size ≤ 5000) (hs : 0 ≤ c.start ∧ c.start ≤ p) :
    Calls Tryz.prog 68 #[.pointer (some ⟨b, 0, none⟩), .int .i64 p, .int .i32 r] w fun x w' => x = .returned (.bool (c.goes p r)) ∧ CutW B b c v w' ∧ Kp b w w' := by
  have h0 := h.text
  have h4 := h.mode
  have h5 := h.start
  by_cases m1 : c.mode = 1
  · have hf : Hid (c.goes p r = (r != 10 && !(brokenB c.text p r))) := if_pos m1
    rw [m1] at h4
    by_cases hr : r = 10
    · subst hr
      go_enter Tryz.func68, Tryz.ntmps68
      go_wp2
      go_ret
      exact ⟨ret_bool (by rw [hf.out]; rfl), h, Kp.refl b w⟩
    · have hd : (r != 10) = true := by simpa using hr
      go_enter Tryz.func68, Tryz.ntmps68
      go_wp2_with (go_at_call 114; refine (isBroken_any B b c v p r _ h hp hz).mono ?_; rintro e w' ⟨rfl, rfl⟩)
      go_ret
      exact ⟨ret_bool (by rw [hf.out, hd]; rfl), h, Kp.refl b w⟩
  have n1 : (c.mode == 1) = false := by simpa using m1
  by_cases m2 : c.mode = 2
  · have hf : Hid (c.goes p r = (letterB r || digitB r)) := by unfold Hid Cut.goes; rw [if_neg m1, if_pos m2]
    rw [m2] at h4
    cases hl : letterB r
    · go_enter Tryz.func68, Tryz.ntmps68
      go_wp2_with (first | (go_at_call 115; refine (isLetter_any r _).mono ?_; rintro e w' ⟨rfl, rfl⟩; rw [hl]) | (go_at_call 116; refine (isDigit_any r _).mono ?_; rintro e w' ⟨rfl, rfl⟩))
      go_ret
      exact ⟨ret_bool (by rw [hf.out, hl]; rfl), h, Kp.refl b w⟩
    · go_enter Tryz.func68, Tryz.ntmps68
      go_wp2_with (first | (go_at_call 115; refine (isLetter_any r _).mono ?_; rintro e w' ⟨rfl, rfl⟩; rw [hl]) | (go_at_call 116; refine (isDigit_any r _).mono ?_; rintro e w' ⟨rfl, rfl⟩))
      go_ret
      exact ⟨ret_bool (by rw [hf.out, hl]; rfl), h, Kp.refl b w⟩
  have n2 : (c.mode == 2) = false := by simpa using m2
  by_cases m3 : c.mode = 3
  · have hf : Hid (c.goes p r = digitB r) := by unfold Hid Cut.goes; rw [if_neg m1, if_neg m2, if_pos m3]
    rw [m3] at h4
    go_enter Tryz.func68, Tryz.ntmps68
    go_wp2_with (first | (go_at_call 116; refine (isDigit_any r _).mono ?_; rintro e w' ⟨rfl, rfl⟩))
    go_ret
    exact ⟨ret_bool (by rw [hf.out]), h, Kp.refl b w⟩
  have n3 : (c.mode == 3) = false := by simpa using m3
  by_cases m4 : c.mode = 4
  · have hf : Hid (c.goes p r = bsB ((c.text.data.toList.take p).drop c.start.toNat ++ (Utf8.encode r).data.toList)) := by unfold Hid Cut.goes; rw [if_neg m1, if_neg m2, if_neg m3, if_pos m4]
    rw [m4] at h4
    obtain ⟨st, hst⟩ : ∃ st : Nat, c.start = st := ⟨c.start.toNat, by omega⟩
    rw [hst] at h5
    have hsp : st ≤ p := by omega
    have hsum : (c.text.extract st p).size + (Utf8.encode r).size ≤ 9223372036854775807 := by
      have := encode_size r
      rw [ByteArray.size_extract]
      omega
    have htn : ∀ n, Tab (w.drewN n) := fun n i hi => ht i hi
    have hadd := fun wx => run_string_add_sum (P := Tryz.prog) wx (c.text.extract st p) (Utf8.encode r) hsum
    go_enter Tryz.func68, Tryz.ntmps68
    go_wp2
    go_quiet ((go_at_call 117; exact Calls.quiet_of_same ((beginsSign_any _ _ (htn _)).mono fun _ _ hq => ⟨hq.1, hq.2.symm⟩)))
    go_wp2
    go_ret
    exact ⟨ret_bool (by rw [hf.out, hst, Int.toNat_natCast, ← cut_data]), h.drewN nq, Kp.drewN b w nq⟩
  · have n4 : (c.mode == 4) = false := by simpa using m4
    have hf : Hid (c.goes p r = false) := by unfold Hid Cut.goes; rw [if_neg m1, if_neg m2, if_neg m3, if_neg m4]
    go_enter Tryz.func68, Tryz.ntmps68
    go_wp2
    go_ret
    exact ⟨ret_bool (by rw [hf.out]), h, Kp.refl b w⟩

def Cut.begins (c : Cut) (p r : Int) : Cut :=
  if blankB r then { c with start := p, mode := 0 }
  else if r = 35 then { c with start := p, mode := 1 }
  else if letterB r then { c with start := p, mode := 2 }
  else if digitB r then { c with start := p, mode := 3 }
  else if bsB (Utf8.encode r).data.toList then { c with start := p, mode := 4 }
  else ({ c with start := p } : Cut).fail 1 p

set_option maxRecDepth 100000 in
set_option maxHeartbeats 2000000 in
theorem begin_any (B b : Nat) (c : Cut) (v : Value) (p r : Int) (w : World) (h : CutW B b c v w) (ht : Tab w) (h0 : 0 < b) :
    Calls Tryz.prog 70 #[.pointer (some ⟨b, 0, none⟩), .int .i64 p, .int .i32 r] w fun x w' => x = .returned (.tuple #[]) ∧ CutW B b (c.begins p r) v w' ∧ Kp b w w' := by
  have h4 := h.mode
  have h5 := h.start
  have f4 := h.thawed 4
  have f5 := h.thawed 5
  have hs := h.setStart p
  have ks := (Kp.refl b w).set 5 (.int .i64 p)
  have ts := ht.below ks.below h0
  have h4' := hs.mode
  have f4' := hs.thawed 4
  cases e1 : blankB r
  · by_cases e2 : r = 35
    · subst e2
      go_enter Tryz.func70, Tryz.ntmps70
      go_wp2_with (first | (go_at_call 121; refine (isBlank_any _ _).mono ?_; rintro e w' ⟨rfl, rfl⟩; rw [e1]))
      go_end0
      exact ⟨rfl, by unfold Cut.begins; rw [e1, if_neg (by simp), if_pos rfl]; exact hs.setMode 1, ks.set 4 _⟩
    · have e2' : (r == 35) = false := by simpa using e2
      cases e3 : letterB r
      · cases e4 : digitB r
        · cases e5 : bsB (Utf8.encode r).data.toList
          · go_enter Tryz.func70, Tryz.ntmps70
            go_wp2_with (first | (go_at_call 121; refine (isBlank_any _ _).mono ?_; rintro e w' ⟨rfl, rfl⟩; rw [e1]) | (go_at_call 115; refine (isLetter_any _ _).mono ?_; rintro e w' ⟨rfl, rfl⟩; rw [e3]) | (go_at_call 116; refine (isDigit_any _ _).mono ?_; rintro e w' ⟨rfl, rfl⟩; rw [e4]) | (go_at_call 117; refine (beginsSign_any _ _ ts).mono ?_; rintro e w' ⟨rfl, rfl⟩; rw [e5]) | (go_at_call 122; refine (fail_any B b _ v _ _ _ hs).mono ?_; rintro e w' ⟨rfl, hc', hk⟩))
            go_end0
            exact ⟨rfl, by unfold Cut.begins; rw [e1, e3, e4, e5, if_neg (by simp), if_neg e2]; exact hc', ks.trans hk⟩
          · go_enter Tryz.func70, Tryz.ntmps70
            go_wp2_with (first | (go_at_call 121; refine (isBlank_any _ _).mono ?_; rintro e w' ⟨rfl, rfl⟩; rw [e1]) | (go_at_call 115; refine (isLetter_any _ _).mono ?_; rintro e w' ⟨rfl, rfl⟩; rw [e3]) | (go_at_call 116; refine (isDigit_any _ _).mono ?_; rintro e w' ⟨rfl, rfl⟩; rw [e4]) | (go_at_call 117; refine (beginsSign_any _ _ ts).mono ?_; rintro e w' ⟨rfl, rfl⟩; rw [e5]))
            go_end0
            exact ⟨rfl, by unfold Cut.begins; rw [e1, e3, e4, e5, if_neg (by simp), if_neg e2]; exact hs.setMode 4, ks.set 4 _⟩
        · go_enter Tryz.func70, Tryz.ntmps70
          go_wp2_with (first | (go_at_call 121; refine (isBlank_any _ _).mono ?_; rintro e w' ⟨rfl, rfl⟩; rw [e1]) | (go_at_call 115; refine (isLetter_any _ _).mono ?_; rintro e w' ⟨rfl, rfl⟩; rw [e3]) | (go_at_call 116; refine (isDigit_any _ _).mono ?_; rintro e w' ⟨rfl, rfl⟩; rw [e4]))
          go_end0
          exact ⟨rfl, by unfold Cut.begins; rw [e1, e3, e4, if_neg (by simp), if_neg e2]; exact hs.setMode 3, ks.set 4 _⟩
      · go_enter Tryz.func70, Tryz.ntmps70
        go_wp2_with (first | (go_at_call 121; refine (isBlank_any _ _).mono ?_; rintro e w' ⟨rfl, rfl⟩; rw [e1]) | (go_at_call 115; refine (isLetter_any _ _).mono ?_; rintro e w' ⟨rfl, rfl⟩; rw [e3]))
        go_end0
        exact ⟨rfl, by unfold Cut.begins; rw [e1, e3, if_neg (by simp), if_neg e2]; exact hs.setMode 2, ks.set 4 _⟩
  · go_enter Tryz.func70, Tryz.ntmps70
    go_wp2_with (first | (go_at_call 121; refine (isBlank_any _ _).mono ?_; rintro e w' ⟨rfl, rfl⟩; rw [e1]))
    go_end0
    exact ⟨rfl, by unfold Cut.begins; rw [e1, if_pos rfl]; exact hs.setMode 0, ks.set 4 _⟩

end Go.Proofs.YtikffmloeifkpaaGreatDoor

/- The cutter of package words: a name's end, whatever ends. -/
namespace Go.Proofs.YtikffmloeifkpaaGreatDoor
open Go.RowKit Go.Lib

def Cut.named (c : Cut) (t : ByteArray) : Cut :=
  if 12 < Lib.runeCount t then c.fail 1 c.start else if spB t.data.toList then c.push (spK t.data.toList) 0 (ByteArray.mk #[]) else c.push 1 0 t

set_option maxHeartbeats 400000 in
theorem Clone_any (s : ByteArray) (w : World) (hlim : s.size ≤ 281474976710656) :
    Calls Tryz.prog 182 #[.string s] w fun e w' => e = .returned (.string s) ∧ Below w.heap.size w w' := by
  go_enter Tryz.func182, Tryz.ntmps182
  go_wp2_with (go_at_call 240; refine (Tryz.stringslite_Clone s _ hlim).mono ?_; rintro e w' ⟨rfl, hb⟩)
  go_ret
  exact ⟨rfl, hb⟩

/-- A call of a Go function as one step of a region that draws its order, by its contract. -/
theorem step_call {P : Program} {ops : Array Oper} {o : Oper} {a : Act} {w : World} {K : Act → World → Prop} {Q : Exit → Act → World → Prop} {E : Prop} (hgd : o.guard = none) (f : FuncId) (args : Array Value)
    (R : Ending → World → Prop) (hrun : (execOp a.eval o).run P w = .ok (.enter f args) w) (hc : Calls P f args w R) (h : ∀ e w', R e w' → ∃ v, e = .returned v ∧ K (a.put o.dst v) w') :
    if Region.wanted o (yielded ops a.tmps) = true then Oper.wp P o a w K Q else E := by
  have hw : Region.wanted o (yielded ops a.tmps) = true := by simp [Region.wanted, hgd]
  rw [if_pos hw]
  unfold Oper.wp
  rw [hrun, Oper.upon_enter]
  refine hc.mono ?_
  intro e w' hr
  obtain ⟨v, rfl, hk⟩ := h e w' hr
  exact hk

theorem grown_drew {w w' : World} {r : Option Nat} (h : w.grownBy w' r) : w.drew.grownBy w' r := ⟨h.os, h.tape, h.output, h.size, h.block⟩

set_option maxRecDepth 100000 in
set_option maxHeartbeats 2000000 in
theorem finishName_any (B b : Nat) (c : Cut) (v : Value) (t : ByteArray) (w : World) (h : CutW B b c v w) (ht : Tab w) (h0 : 0 < b) (hB : B ≤ w.heap.size) (hn : c.words.length ≤ 5000) (hz : t.size ≤ 5000) :
    Calls Tryz.prog 118 #[.pointer (some ⟨b, 0, none⟩), .string t] w fun x w' => x = .returned (.tuple #[]) ∧
      (∃ v', CutW B b (c.named t) v' w') ∧ Kp b w w' := by
  have lg : b < w.heap.size := World.block_lt_of_cell? w _ h.wordsAt
  obtain ⟨i0, hi0, hz0, hz1, hz2⟩ := info_parts Tryz.info143
  have hrc : (Lib.runeCount t : Int) ≤ 5000 := by have := Lib.runeCount_le t; omega
  go_enter Tryz.func118, Tryz.ntmps118
  go_wp2_with fail
  refine (Tryz.utf8_RuneCountInString t _ (by omega)).mono ?_
  rintro e w' ⟨rfl, pos, rfl⟩
  have h' := h.iter lg t pos
  have k' := Kp.iter lg t pos
  have lg' : b < (w.iter t pos).heap.size := World.block_lt_of_cell? _ _ h'.wordsAt
  have hB' : B ≤ (w.iter t pos).heap.size := Nat.le_trans hB (by show _ ≤ (w.alloc _).heap.size; simp)
  have ht' := ht.below k'.below h0
  generalize w.iter t pos = W at *
  have h1 := h'.wordsAt
  have h5 := h'.start
  have f1 := h'.thawed 1
  have hown := h'.own
  have ag : some b ≠ v.ownBlock := fun e => by have := (hown.lt b e.symm).1; have := h.lt; omega
  by_cases hgt : 12 < Lib.runeCount t
  · have hf : Hid (c.named t = c.fail 1 c.start) := if_pos hgt
    have hgt' : (12 : Int) < (Lib.runeCount t : Int) := by omega
    go_wp2_with (go_at_call 122; refine (fail_any B b c v _ _ _ h').mono ?_; rintro e w' ⟨rfl, hc', hk⟩)
    refine bodyPost_ret (results_none rfl _ _ _) rfl ?_
    exact ⟨rfl, ⟨v, by rw [hf.out]; exact hc'⟩, k'.trans hk⟩
  · have hgt' : ¬ (12 : Int) < (Lib.runeCount t : Int) := by omega
    cases hs : spB t.data.toList
    · have hf : Hid (c.named t = c.push 1 0 t) := by unfold Hid Cut.named; rw [if_neg hgt, hs]; rfl
      go_wp2_with (first | (go_at_call 181; refine (spelled_any _ _ ht').mono ?_; rintro e w' ⟨rfl, rfl⟩; rw [hs]))
      go_region_law
        (first
          | (refine step_append_lies _ (by rfl) _ _ _ (by rfl) B 143 i0 _ 4 40 Tryz.underlying85 hi0 hz0 hz1 hz2 rfl (by omega) v c.words.length (cellsOf c.words) (by rfl) (hown2.alloc _)
              ⟨w2.heap.size, 0, none⟩ 1 1 (Tok.cells ⟨1, c.start, t, 0⟩) (by rfl) (by rfl) (World.news_of_block (cs := #[.int .i64 1, .int .i64 c.start, .string t, .int .i64 0]) (t := 143) (fr := (0, 0)) (heap_alloc_new w2 _)) (by simp [Tok.cells, Value.oneCell'])
              (by omega) (by unfold maxLen; omega) (by omega) (by simp; omega) (w2.heap.size + 1) (by simp) ?_; intro gg cap w1 hown1 hgrow0 hat hlt; have hgrow := grown_drew hgrow0; have q1 := (hgrow.cell_far ⟨b, 1, none⟩ (keepL lg2) ag).trans (keepC lg2 p1); have q2 := (hgrow.frozen_far ⟨b, 1, none⟩ (keepL lg2) ag).trans (keepF lg2 p2))
          | (refine step_call rfl 182 #[.string t] _ (by go_simp) (Clone_any t _ (by omega)) ?_; rintro e w2 ⟨rfl, hb2⟩; refine ⟨_, rfl, ?_⟩; have hC2 := (h'.drewN 1).below hb2; have hK2 := (Kp.drewN b W 1).trans (Kp.of_below hb2 lg'); have p1 := hC2.wordsAt; have p2 := hC2.thawed 1; have p5 := hC2.start; have hown2 := hC2.own; have lg2 : b < w2.heap.size := Nat.lt_of_lt_of_le lg' hb2.size; have hB2 : B ≤ w2.heap.size := Nat.le_trans hB' hb2.size))
      all_goals go_wp2
      all_goals refine bodyPost_end (results_none rfl _ _ _) rfl ?_
      all_goals exact ⟨rfl, by rw [hf.out]; exact (CutW.pushed hC2 lg2 hown1 hgrow).1, (k'.trans hK2).trans (CutW.pushed hC2 lg2 hown1 hgrow).2⟩
    · have hf : Hid (c.named t = c.push (spK t.data.toList) 0 (ByteArray.mk #[])) := by unfold Hid Cut.named; rw [if_neg hgt, hs]; rfl
      go_wp2_with (first | (go_at_call 181; refine (spelled_any _ _ ht').mono ?_; rintro e w' ⟨rfl, rfl⟩; rw [hs]))
      go_region_law
        ((refine step_append_lies _ (by rfl) _ _ _ (by rfl) B 143 i0 _ 4 40 Tryz.underlying85 hi0 hz0 hz1 hz2 rfl (by omega) v c.words.length (cellsOf c.words) (by rfl) ((hown.alloc _).drew)
            ⟨W.heap.size, 0, none⟩ 1 1 (Tok.cells ⟨spK t.data.toList, c.start, ByteArray.mk #[], 0⟩) (by rfl) (by rfl) (World.news_of_block (cs := #[.int .i64 (spK t.data.toList), .int .i64 c.start, .string (ByteArray.mk #[]), .int .i64 0]) (t := 143) (fr := (0, 0)) (heap_alloc_new W _)) (by simp [Tok.cells, Value.oneCell'])
            (by omega) (by unfold maxLen; omega) (by omega) (by simp; omega) (W.heap.size + 1) (by simp) ?_; intro gg cap w1 hown1 hgrow hat hlt; have q1 := (hgrow.cell_far ⟨b, 1, none⟩ (keepL lg') ag).trans (keepC lg' h1); have q2 := (hgrow.frozen_far ⟨b, 1, none⟩ (keepL lg') ag).trans (keepF lg' f1)))
      all_goals go_wp2
      all_goals refine bodyPost_ret (results_none rfl _ _ _) rfl ?_
      all_goals exact ⟨rfl, by rw [hf.out]; exact (CutW.pushed h' lg' hown1 hgrow).1, k'.trans (CutW.pushed h' lg' hown1 hgrow).2⟩
end Go.Proofs.YtikffmloeifkpaaGreatDoor

/- The cutter of package words: finish, Cut. -/
namespace Go.Proofs.YtikffmloeifkpaaGreatDoor
open Go.RowKit Go.Lib

def Cut.finish (c : Cut) (e : Nat) : Cut :=
  if c.mode = 2 then c.named (c.text.extract c.start.toNat e)
  else if c.mode = 3 then c.number (c.text.extract c.start.toNat e)
  else if c.mode = 4 then c.sign (c.text.extract c.start.toNat e)
  else c

set_option maxRecDepth 100000 in
set_option maxHeartbeats 2000000 in
theorem finish_any (B b : Nat) (c : Cut) (v : Value) (e : Nat) (w : World) (h : CutW B b c v w) (ht : Tab w) (h0 : 0 < b) (hB : B ≤ w.heap.size) (hn : c.words.length ≤ 5000) (he : e ≤ c.text.size) (hz : c.text.size ≤ 5000)
    (hs : 0 ≤ c.start ∧ c.start ≤ e) (hd : c.mode = 3 → Digits (c.text.extract c.start.toNat e).data.toList) :
    Calls Tryz.prog 69 #[.pointer (some ⟨b, 0, none⟩), .int .i64 e] w fun x w' => x = .returned (.tuple #[]) ∧
      (∃ v', CutW B b (c.finish e) v' w') ∧ Kp b w w' := by
  have g0 := h.text
  have h4 := h.mode
  have h5 := h.start
  obtain ⟨st, hst⟩ : ∃ st : Nat, c.start = st := ⟨c.start.toNat, by omega⟩
  rw [hst] at h5
  have hse : st ≤ e := by omega
  have hzt : (c.text.extract st e).size ≤ 5000 := by rw [ByteArray.size_extract]; omega
  by_cases m2 : c.mode = 2
  · have hf : Hid (c.finish e = c.named (c.text.extract st e)) := by unfold Hid Cut.finish; rw [if_pos m2, hst, Int.toNat_natCast]
    rw [m2] at h4
    go_enter Tryz.func69, Tryz.ntmps69
    go_wp2
    go_quiet (fail)
    go_wp2_with fail
    refine (finishName_any B b c v _ _ (h.drewN _) (fun i hi => ht i hi) h0 hB hn hzt).mono ?_
    rintro x w' ⟨rfl, hc', hk⟩
    go_wp2
    go_end0
    exact ⟨rfl, by rw [hf.out]; exact hc', (Kp.drewN b w _).trans hk⟩
  have n2 : (c.mode == 2) = false := by simpa using m2
  by_cases m3 : c.mode = 3
  · have hf : Hid (c.finish e = c.number (c.text.extract st e)) := by unfold Hid Cut.finish; rw [if_neg m2, if_pos m3, hst, Int.toNat_natCast]
    have hd' := hd m3
    rw [hst, Int.toNat_natCast] at hd'
    rw [m3] at h4
    go_enter Tryz.func69, Tryz.ntmps69
    go_wp2
    go_quiet (fail)
    go_wp2_with fail
    refine (finishNumber_any B b c v _ _ (h.drewN _) hB hn hd' hzt).mono ?_
    rintro x w' ⟨rfl, hc', hk⟩
    go_wp2
    go_end0
    exact ⟨rfl, by rw [hf.out]; exact hc', (Kp.drewN b w _).trans hk⟩
  have n3 : (c.mode == 3) = false := by simpa using m3
  by_cases m4 : c.mode = 4
  · have hf : Hid (c.finish e = c.sign (c.text.extract st e)) := by unfold Hid Cut.finish; rw [if_neg m2, if_neg m3, if_pos m4, hst, Int.toNat_natCast]
    rw [m4] at h4
    go_enter Tryz.func69, Tryz.ntmps69
    go_wp2
    go_quiet (fail)
    go_wp2_with fail
    refine (finishSign_any B b c v _ _ (h.drewN _) (fun i hi => ht i hi) hB hn).mono ?_
    rintro x w' ⟨rfl, hc', hk⟩
    go_wp2
    go_end0
    exact ⟨rfl, by rw [hf.out]; exact hc', (Kp.drewN b w _).trans hk⟩
  · have n4 : (c.mode == 4) = false := by simpa using m4
    have hf : Hid (c.finish e = c) := by unfold Hid Cut.finish; rw [if_neg m2, if_neg m3, if_neg m4]
    go_enter Tryz.func69, Tryz.ntmps69
    go_wp2
    go_quiet (fail)
    go_wp2
    go_end0
    exact ⟨rfl, ⟨v, by rw [hf.out]; exact h.drewN _⟩, Kp.drewN b w _⟩
end Go.Proofs.YtikffmloeifkpaaGreatDoor

/- Plain facts on the cutter's run over a text: no walk. -/
namespace Go.Proofs.YtikffmloeifkpaaGreatDoor
open Go.RowKit Go.Lib

def Cut.step (c : Cut) (p : Nat) (r : Int) : Cut := if c.goes p r then c else (c.finish p).begins p r
def Cut.run (c : Cut) : Nat → Nat → Cut
  | 0, _ => c
  | n + 1, p =>
    if p < c.text.size then
      if (c.step p (Utf8.decode c.text p).1).code ≠ 0 then c.step p (Utf8.decode c.text p).1
      else (c.step p (Utf8.decode c.text p).1).run n (p + (Utf8.decode c.text p).2)
    else c.finish p
def cutOf (s : ByteArray) : Cut := (⟨s, [], 0, 0, 0, 0⟩ : Cut).run (s.size + 1) 0

theorem decode_le_size (s : ByteArray) (p : Nat) (h : p < s.size) : p + (Utf8.decode s p).2 ≤ s.size := by
  simp only [Utf8.decode]
  repeat' split
  all_goals simp_all
  all_goals omega

/-- What holds of a cutter at a place. -/
structure Fine (c : Cut) (p : Nat) : Prop where
  lo : 0 ≤ c.start
  hi : c.start ≤ p
  le : p ≤ c.text.size
  digits : c.mode = 3 → Digits (c.text.extract c.start.toNat p).data.toList
  count : c.words.length ≤ c.start
  some_ : c.mode ≠ 0 → c.start < p

theorem Cut.fail_text (c : Cut) (e p : Int) : (c.fail e p).text = c.text ∧ (c.fail e p).words = c.words ∧ (c.fail e p).start = c.start ∧ (c.fail e p).mode = c.mode := by
  unfold Cut.fail; split <;> simp
theorem Cut.finish_keeps (c : Cut) (p : Nat) : (c.finish p).text = c.text ∧ (c.finish p).start = c.start ∧ (c.finish p).mode = c.mode ∧ ((c.finish p).words.length = c.words.length ∨ (c.mode ≠ 0 ∧ (c.finish p).words.length = c.words.length + 1)) := by
  unfold Cut.finish
  by_cases h2 : c.mode = 2
  · rw [if_pos h2]; unfold Cut.named Cut.push
    have := c.fail_text 1 c.start
    split
    · simp [this]
    · split <;> simp [h2]
  rw [if_neg h2]
  by_cases h3 : c.mode = 3
  · rw [if_pos h3]; unfold Cut.number Cut.push
    have := c.fail_text 3 c.start
    split <;> simp [this, h3]
  rw [if_neg h3]
  by_cases h4 : c.mode = 4
  · rw [if_pos h4]; unfold Cut.sign Cut.push
    have := c.fail_text 1 c.start
    split <;> simp [this, h4]
  rw [if_neg h4]
  simp
theorem Cut.begins_keeps (c : Cut) (p r : Int) : (c.begins p r).text = c.text ∧ (c.begins p r).start = p ∧ (c.begins p r).words = c.words ∧ ((c.begins p r).code = 0 → (c.begins p r).mode = 3 → digitB r = true) := by
  unfold Cut.begins
  by_cases h1 : blankB r = true
  · rw [if_pos h1]; simp
  rw [if_neg h1]
  by_cases h2 : r = 35
  · rw [if_pos h2]; simp
  rw [if_neg h2]
  by_cases h3 : letterB r = true
  · rw [if_pos h3]; simp
  rw [if_neg h3]
  by_cases h4 : digitB r = true
  · rw [if_pos h4]; simp [h4]
  rw [if_neg h4]
  by_cases h5 : bsB (Utf8.encode r).data.toList = true
  · rw [if_pos h5]; simp
  rw [if_neg h5]
  have := ({ c with start := p } : Cut).fail_text 1 p
  have hne : (({ c with start := p } : Cut).fail 1 p).code ≠ 0 := by unfold Cut.fail; split <;> simp_all
  simp [this, hne]

theorem digit_at (s : ByteArray) (p : Nat) (h : p < s.size) (hd : digitB (Utf8.decode s p).1 = true) : (Utf8.decode s p).2 = 1 ∧ 48 ≤ s[p].toNat ∧ s[p].toNat ≤ 57 := by
  by_cases ha : s[p].toNat < 128
  · rw [decode_ascii s p h ha] at hd ⊢
    simp [digitB] at hd
    exact ⟨rfl, by omega, by omega⟩
  · have := (decode_high s p h (by omega)).1
    simp [digitB] at hd
    omega

theorem extract_snoc (s : ByteArray) (a p : Nat) (h : p < s.size) (ha : a ≤ p) : (s.extract a (p + 1)).data.toList = (s.extract a p).data.toList ++ [s[p]] := by
  rw [Lib.extract_data, Lib.extract_data, show p + 1 - a = (p - a) + 1 from by omega, List.take_succ_eq_append_getElem (by simp; omega)]
  congr 1
  simp
  congr 1
  omega

theorem Fine.step {c : Cut} {p : Nat} (h : Fine c p) (hp : p < c.text.size) (hc : (c.step p (Utf8.decode c.text p).1).code = 0) : Fine (c.step p (Utf8.decode c.text p).1) (p + (Utf8.decode c.text p).2) ∧ (c.step p (Utf8.decode c.text p).1).text = c.text := by
  have hw := Lib.decode_width_pos c.text p hp
  have hl := decode_le_size c.text p hp
  have hlo := h.lo
  have hhi := h.hi
  unfold Cut.step
  by_cases hg : c.goes p (Utf8.decode c.text p).1 = true
  · rw [if_pos hg]
    refine ⟨⟨h.lo, by omega, hl, fun m => ?_, h.count, fun m => by have := h.some_ m; omega⟩, rfl⟩
    have hd : digitB (Utf8.decode c.text p).1 = true := by
      unfold Cut.goes at hg
      rw [if_neg (by omega), if_neg (by omega), if_pos m] at hg
      exact hg
    obtain ⟨h1, h2, h3⟩ := digit_at c.text p hp hd
    rw [h1, extract_snoc _ _ _ hp (by omega)]
    intro d hd
    rcases List.mem_append.1 hd with hd | hd
    · exact h.digits m d hd
    · simp at hd; subst hd; exact ⟨h2, h3⟩
  · rw [if_neg hg]
    obtain ⟨f1, f2, f3, f4⟩ := c.finish_keeps p
    obtain ⟨b1, b2, b3, b4⟩ := (c.finish p).begins_keeps p (Utf8.decode c.text p).1
    refine ⟨⟨by rw [b2]; omega, by rw [b2]; omega, by rw [b1, f1]; exact hl, fun m => ?_, ?_, fun _ => by rw [b2]; omega⟩, b1.trans f1⟩
    · unfold Cut.step at hc
      rw [if_neg hg] at hc
      obtain ⟨h1, h2, h3⟩ := digit_at c.text p hp (b4 hc m)
      rw [b2, Int.toNat_natCast, b1, f1, h1, extract_snoc _ _ _ hp (Nat.le_refl _)]
      intro d hd
      rcases List.mem_append.1 hd with hd | hd
      · rw [Lib.extract_data] at hd; simp at hd
      · simp at hd; subst hd; exact ⟨h2, h3⟩
    · rw [b3, b2]
      have := h.count
      rcases f4 with f4 | ⟨m, f4⟩
      · omega
      · have := h.some_ m; omega

theorem Fine.start (s : ByteArray) : Fine ⟨s, [], 0, 0, 0, 0⟩ 0 := ⟨by simp, by simp, by simp, by simp, by simp, by simp⟩
end Go.Proofs.YtikffmloeifkpaaGreatDoor
