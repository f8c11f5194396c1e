/- Reckoned, plainly: what Walk answers of its texts. -/
import Derived.Test.YtikffmloeifkpaaGreatDoorM23
namespace Go.Proofs.YtikffmloeifkpaaGreatDoor
open Go.RowKit Go.Lib Go.Deep

/-- The expression of a program whose main has three arguments and returns it. -/
def soloOf : Tr → Option Tr
  | .node _ _ _ (.node _ _ _ (.node _ _ f p (.node _ _ _ .nil (.node _ _ x (.node _ _ y (.node _ _ z e .nil) .nil) .nil))) .nil) _ =>
    if f.tag = 17 ∧ x.tag = 20 ∧ y.tag = 15 ∧ z.tag = 13 ∧ lenV p = 3 then some e else none
  | _ => none
def fin3 (x : List Int × Rn) : Rs4 := if x.2.fin = 0 then ⟨1, hd x.1, x.2.site, x.2.outs⟩ else ⟨x.2.fin, 0, x.2.site, x.2.outs⟩
theorem solo_run {T e : Tr} (h : soloOf T = some e) (a b c : Int) : ∃ lens C, runW T 0 [a, b, c] 9 = fin3 (exW lens C (args0 [a, b, c]) e ⟨fun _ => 0, 7, 1, 0, -1, []⟩) := by
  unfold soloOf at h
  split at h
  · rename_i b1 o1 a1 b2 o2 a2 b3 o3 f p b4 o4 a4 b5 o5 x b6 o6 y b7 o7 z e' q
    split at h
    · rename_i ht
      obtain ⟨h17, h20, h15, h13, hp⟩ := ht
      simp only [Option.some.injEq] at h
      subst h
      obtain ⟨M, hM⟩ : ∃ M : Tr, M = .node b3 o3 f p (.node b4 o4 a4 .nil (.node b5 o5 x (.node b6 o6 y (.node b7 o7 z e' .nil) .nil) .nil)) := ⟨_, rfl⟩
      rw [← hM]
      have h17M : tagOf M = 17 := by rw [hM]; exact h17
      have hpM : nPar M = 3 := by rw [hM]; exact hp
      have hwM : whereOf M = .nil := by rw [hM]; rfl
      have hbM : bodyOf M = .node b5 o5 x (.node b6 o6 y (.node b7 o7 z e' .nil) .nil) .nil := by rw [hM]; rfl
      refine ⟨lensOf [], clW (lensOf []) [M] 9, ?_⟩
      rw [runW_x]
      have e16 : kindOf 16 (elems (.node b1 o1 a1 (.node b2 o2 a2 M .nil) q)) = [] := by
        show (if tagOf M = 16 then _ else _) = _
        rw [if_neg (by omega)]; rfl
      have e17 : kindOf 17 (elems (.node b1 o1 a1 (.node b2 o2 a2 M .nil) q)) = [M] := by
        show (if tagOf M = 17 then _ else _) = _
        rw [if_pos h17M]; rfl
      rw [e16, e17]
      unfold runX
      have hn : [M].getD (0 : Int).toNat .nil = M := rfl
      rw [hn, hwM, hpM, if_neg (by
        intro h
        rcases h with h | h
        · exact h rfl
        · cases h)]
      have hf : (min (max (9 : Int) 0) 20000).toNat = 9 := by decide
      rw [hf]
      dsimp only
      rw [enW_go (by decide) (by rfl), hbM]
      have hblk : ∀ m : Fm, stW (lensOf []) (clW (lensOf []) [M] 9) (.node b5 o5 x (.node b6 o6 y (.node b7 o7 z e' .nil) .nil) .nil) m = stW (lensOf []) (clW (lensOf []) [M] 9) (.node b6 o6 y (.node b7 o7 z e' .nil) .nil) m := fun m => by
        conv => lhs; unfold stW
        rw [if_pos (.inl h20)]
      have hone : ∀ m : Fm, stW (lensOf []) (clW (lensOf []) [M] 9) (.node b7 o7 z e' .nil) m = { m with on := false, value := hd (exW (lensOf []) (clW (lensOf []) [M] 9) m.vars e' m.run).1, run := (exW (lensOf []) (clW (lensOf []) [M] 9) m.vars e' m.run).2 } := fun m => by
        conv => lhs; unfold stW
        rw [if_neg (by omega), if_neg (by omega), if_neg (by omega), if_neg (by omega), if_neg (by omega), if_neg (by omega), if_pos h13]
      have hseq : ∀ m : Fm, m.run.burns = true → stW (lensOf []) (clW (lensOf []) [M] 9) (.node b6 o6 y (.node b7 o7 z e' .nil) .nil) m = { m with on := false, value := hd (exW (lensOf []) (clW (lensOf []) [M] 9) m.vars e' m.run.burn).1, run := (exW (lensOf []) (clW (lensOf []) [M] 9) m.vars e' m.run.burn).2 } := fun m hm => by
        conv => lhs; unfold stW
        rw [if_neg (by omega), if_pos h15, if_pos hm, hone]
        rfl
      rw [hblk, hseq _ rfl]
      rfl
    · cases h
  · cases h
/-- Two expressions that do the same. -/
def eqE : Tr → Tr → Bool
  | .nil, .nil => true
  | .node _ _ a l q, .node _ _ b m p => a.tag == b.tag && a.op == b.op && a.which == b.which && a.site == b.site && a.val == b.val && eqE l m && eqE q p
  | _, _ => false
theorem eqE_ex {lens : Nat → Int} {C : Cl} {vars : Nat → Int} : ∀ (t u : Tr), eqE t u = true → ∀ r, exW lens C vars t r = exW lens C vars u r := by
  intro t
  induction t with
  | nil =>
    intro u h r
    cases u with
    | nil => rfl
    | node => cases h
  | node b o a l q ihl ihq =>
    intro u h r
    cases u with
    | nil => cases h
    | node b' o' a' m p =>
      have h : (a.tag == a'.tag && a.op == a'.op && a.which == a'.which && a.site == a'.site && a.val == a'.val && eqE l m && eqE q p) = true := h
      simp only [Bool.and_eq_true, beq_iff_eq] at h
      obtain ⟨⟨⟨⟨⟨⟨h1, h2⟩, h3⟩, h4⟩, h5⟩, h6⟩, h7⟩ := h
      simp only [exW, h1, h2, h3, h4, h5, ihl m h6, ihq p h7]
def vE (k : Int) : Tr := mk { tag := 1, which := k } .nil .nil
def bE (i s : Int) (l q : Tr) : Tr := mk { tag := 6, op := 27 + i, site := s } l q
def brE (l : Tr) : Tr := mk { tag := 4 } l .nil
/-- An operation of two numbers, by its number. -/
def opW (i a b : Int) : Int × Bool := if 3 ≤ i ∧ b = 0 then (0, false) else (arith (27 + i) a b, true)
theorem ex_v {lens : Nat → Int} {C : Cl} {vars : Nat → Int} (k : Int) (r : Rn) : exW lens C vars (vE k) r = ([vars k.toNat], r) := rfl
theorem ex_br {lens : Nat → Int} {C : Cl} {vars : Nat → Int} (l : Tr) (r : Rn) : exW lens C vars (brE l) r = exW lens C vars l r := rfl
theorem ex_b {lens : Nat → Int} {C : Cl} {vars : Nat → Int} {i s x y : Int} {l q : Tr} {r r1 r2 : Rn} (h1 : exW lens C vars l r = ([x], r1)) (h2 : exW lens C vars q r1 = ([y], r2)) : exW lens C vars (bE i s l q) r = ([(opW i x y).1], if (opW i x y).2 then r2 else r2.trap s) := by
  show (if 30 ≤ 27 + i ∧ hd (exW lens C vars q (exW lens C vars l r).2).1 = 0 then _ else _) = _
  rw [h1, h2]
  unfold opW
  show (if 30 ≤ 27 + i ∧ y = 0 then ([0], r2.trap s) else ([arith (27 + i) x y], r2)) = _
  by_cases h : 3 ≤ i ∧ y = 0
  · rw [if_pos h, if_pos ⟨by omega, h.2⟩]; rfl
  · rw [if_neg h, if_neg (fun k => h ⟨by omega, k.2⟩)]; rfl
/-- The sites of the first and of the second operation. -/
def st1 (i : Int) : Int := if 3 ≤ i then 0 else -1
def st2 (i j : Int) : Int := if 3 ≤ j then (if 3 ≤ i then 1 else 0) else -1
def teL (i j : Int) : Tr := bE j (st2 i j) (bE i (st1 i) (vE 0) (vE 1)) (vE 2)
def teR (i j : Int) : Tr := bE i (st1 i) (vE 0) (bE j (st2 i j) (vE 1) (vE 2))
/-- What comes of them. -/
def second (i : Int) : Int := if 3 ≤ i then 1 else 0
def resL (i j a b c : Int) : Rs4 := if (opW i a b).2 && (opW j (opW i a b).1 c).2 then ⟨1, (opW j (opW i a b).1 c).1, -1, []⟩ else ⟨2, 0, if (opW i a b).2 then second i else 0, []⟩
def resR (i j a b c : Int) : Rs4 := if (opW j b c).2 && (opW i a (opW j b c).1).2 then ⟨1, (opW i a (opW j b c).1).1, -1, []⟩ else ⟨2, 0, if (opW j b c).2 then 0 else second i, []⟩
theorem op_div {i a b : Int} (h : (opW i a b).2 = false) : 3 ≤ i := by
  unfold opW at h
  split at h
  · rename_i k; exact k.1
  · cases h
theorem fin_L {lens : Nat → Int} {C : Cl} (i j a b c : Int) : fin3 (exW lens C (args0 [a, b, c]) (teL i j) ⟨fun _ => 0, 7, 1, 0, -1, []⟩) = resL i j a b c := by
  unfold teL
  rw [ex_b (ex_b (ex_v 0 _) (ex_v 1 _)) (ex_v 2 _)]
  have e0 : args0 [a, b, c] (0 : Int).toNat = a := rfl
  have e1 : args0 [a, b, c] (1 : Int).toNat = b := rfl
  have e2 : args0 [a, b, c] (2 : Int).toNat = c := rfl
  rw [e0, e1, e2]
  unfold resL
  cases h1 : (opW i a b).2
  · have h3 := op_div h1
    unfold st1
    rw [if_pos h3]
    cases h2 : (opW j (opW i a b).1 c).2 <;> rfl
  · cases h2 : (opW j (opW i a b).1 c).2
    · have h3 := op_div h2
      unfold st2 second
      rw [if_pos h3]
      rfl
    · rfl
theorem fin_R {lens : Nat → Int} {C : Cl} (i j a b c : Int) : fin3 (exW lens C (args0 [a, b, c]) (teR i j) ⟨fun _ => 0, 7, 1, 0, -1, []⟩) = resR i j a b c := by
  unfold teR
  rw [ex_b (ex_v 0 _) (ex_b (ex_v 1 _) (ex_v 2 _))]
  have e0 : args0 [a, b, c] (0 : Int).toNat = a := rfl
  have e1 : args0 [a, b, c] (1 : Int).toNat = b := rfl
  have e2 : args0 [a, b, c] (2 : Int).toNat = c := rfl
  rw [e0, e1, e2]
  unfold resR
  cases h1 : (opW j b c).2
  · have h3 := op_div h1
    unfold st2 second
    rw [if_pos h3]
    cases h2 : (opW i a (opW j b c).1).2 <;> rfl
  · cases h2 : (opW i a (opW j b c).1).2
    · have h3 := op_div h2
      unfold st1
      rw [if_pos h3]
      rfl
    · rfl
/-- A bracket, anywhere, does nothing. -/
def noBr : Tr → Tr
  | .nil => .nil
  | .node b o a l q => if a.tag = 4 then noBr l else .node b o a (noBr l) (noBr q)
theorem noBr_ex {lens : Nat → Int} {C : Cl} {vars : Nat → Int} : ∀ (t : Tr) (r : Rn), exW lens C vars (noBr t) r = exW lens C vars t r := by
  intro t
  induction t with
  | nil => intro r; rfl
  | node b o a l q ihl ihq =>
    intro r
    by_cases h : a.tag = 4
    · rw [show noBr (.node b o a l q) = noBr l from if_pos h, ihl]
      simp [exW, h]
    · rw [show noBr (.node b o a l q) = .node b o a (noBr l) (noBr q) from if_neg h]
      simp only [exW, ihl, ihq]
/-- The texts. -/
def opsB : ByteArray := { data := #[43, 45, 42, 47, 37] }
def txA (i j : Nat) : ByteArray := { data := #[102, 110, 32, 109, 97, 105, 110, 40, 97, 44, 32, 98, 44, 32, 99, 41, 32, 123, 32, 114, 101, 116, 117, 114, 110, 32, 40, 97, 32] } ++ opsB.extract i (i + 1) ++ { data := #[32, 98, 41, 32] } ++ opsB.extract j (j + 1) ++ { data := #[32, 99, 59, 32, 125] }
def txB (i j : Nat) : ByteArray := { data := #[102, 110, 32, 109, 97, 105, 110, 40, 97, 44, 32, 98, 44, 32, 99, 41, 32, 123, 32, 114, 101, 116, 117, 114, 110, 32, 97, 32] } ++ opsB.extract i (i + 1) ++ { data := #[32, 40, 98, 32] } ++ opsB.extract j (j + 1) ++ { data := #[32, 99, 41, 59, 32, 125] }
def txC (i j : Nat) : ByteArray := { data := #[102, 110, 32, 109, 97, 105, 110, 40, 97, 44, 32, 98, 44, 32, 99, 41, 32, 123, 32, 114, 101, 116, 117, 114, 110, 32, 97, 32] } ++ opsB.extract i (i + 1) ++ { data := #[32, 98, 32] } ++ opsB.extract j (j + 1) ++ { data := #[32, 99, 59, 32, 125] }
/-- A text is read, and its expression is this one, brackets aside. -/
def goodT (s : ByteArray) (u : Tr) : Bool := readC s == (0, 0) && resM (rdT s) == 0 && decide (s.size ≤ 100) && (match soloOf (treeOf s) with
  | some e => eqE (noBr e) u
  | none => false)
theorem good_A : ∀ i, i < 5 → ∀ j, j < 5 → goodT (txA i j) (teL i j) = true := by decide +kernel
theorem good_B : ∀ i, i < 5 → ∀ j, j < 5 → goodT (txB i j) (teR i j) = true := by decide +kernel
theorem good_C : ∀ i, i < 5 → ∀ j, j < 5 → goodT (txC i j) (if i < 2 ∧ 1 < j then teR i j else teL i j) = true := by decide +kernel
theorem good_ex {s : ByteArray} {u : Tr} (h : goodT s u = true) (a b c : Int) : readC s = (0, 0) ∧ s.size ≤ 100 ∧ ∃ lens C, walkC s [a, b, c] 9 = fin3 (exW lens C (args0 [a, b, c]) u ⟨fun _ => 0, 7, 1, 0, -1, []⟩) := by
  unfold goodT at h
  simp only [Bool.and_eq_true, beq_iff_eq, decide_eq_true_eq] at h
  obtain ⟨⟨⟨h1, h2⟩, h3⟩, h4⟩ := h
  refine ⟨h1, h3, ?_⟩
  split at h4
  · rename_i e he
    obtain ⟨lens, C, hr⟩ := solo_run he a b c
    refine ⟨lens, C, ?_⟩
    unfold walkC
    rw [h2, hr, ← noBr_ex e, eqE_ex _ _ h4]
  · cases h4
theorem walk_A {i j : Nat} (hi : i < 5) (hj : j < 5) (a b c : Int) : readC (txA i j) = (0, 0) ∧ (txA i j).size ≤ 100 ∧ walkC (txA i j) [a, b, c] 9 = resL i j a b c := by
  obtain ⟨h1, h2, lens, C, h3⟩ := good_ex (good_A i hi j hj) a b c
  exact ⟨h1, h2, h3.trans (fin_L _ _ _ _ _)⟩
theorem walk_B {i j : Nat} (hi : i < 5) (hj : j < 5) (a b c : Int) : readC (txB i j) = (0, 0) ∧ (txB i j).size ≤ 100 ∧ walkC (txB i j) [a, b, c] 9 = resR i j a b c := by
  obtain ⟨h1, h2, lens, C, h3⟩ := good_ex (good_B i hi j hj) a b c
  exact ⟨h1, h2, h3.trans (fin_R _ _ _ _ _)⟩
theorem walk_C {i j : Nat} (hi : i < 5) (hj : j < 5) (a b c : Int) : readC (txC i j) = (0, 0) ∧ (txC i j).size ≤ 100 ∧ walkC (txC i j) [a, b, c] 9 = if i < 2 ∧ 1 < j then resR i j a b c else resL i j a b c := by
  obtain ⟨h1, h2, lens, C, h3⟩ := good_ex (good_C i hi j hj) a b c
  refine ⟨h1, h2, h3.trans ?_⟩
  split
  · exact fin_R _ _ _ _ _
  · exact fin_L _ _ _ _ _
end Go.Proofs.YtikffmloeifkpaaGreatDoor
