/- The program's contracts, part 1: each says what a function of the program does, for every argument that its premises name. -/
import Derived.Test.YtikffmloeifkpaaGreatDoorChecked
import Derived.WalkKit
import Derived.WalkSpells
import Derived.WalkLawsBesides
import Derived.Lib.Strings
import Derived.Lib.Slices
/- Contracts of the small functions of package words: characters, spellings. -/
namespace Go.Proofs.YtikffmloeifkpaaGreatDoor
open Go.RowKit

theorem ret_bool {a b : Bool} (h : a = b) : Ending.returned (.bool a) = .returned (.bool b) := by rw [h]
theorem ret_eq {a b : Bool} (h : a = true ↔ b = true) : Ending.returned (.bool a) = .returned (.bool b) := by rw [Bool.eq_iff_iff.2 h]

def digitB (r : Int) : Bool := decide (48 ≤ r ∧ r ≤ 57)
def blankB (r : Int) : Bool := decide (r = 9 ∨ r = 10 ∨ r = 13 ∨ r = 32)
def letterB (r : Int) : Bool := decide ((97 ≤ r ∧ r ≤ 122) ∨ (65 ≤ r ∧ r ≤ 90) ∨ r = 95 ∨ (192 ≤ r ∧ r ≤ 591 ∧ r ≠ 215 ∧ r ≠ 247))

set_option maxHeartbeats 400000 in
theorem isDigit_any (r : Int) (w : World) :
    Calls Tryz.prog 116 #[.int .i32 r] w fun e w' => e = .returned (.bool (digitB r)) ∧ w = w' := by
  go_enter Tryz.func116, Tryz.ntmps116
  go_wp2
  all_goals (go_ret; exact ⟨ret_bool (by simp [digitB]; try omega), rfl⟩)

set_option maxHeartbeats 400000 in
theorem isBlank_any (r : Int) (w : World) :
    Calls Tryz.prog 121 #[.int .i32 r] w fun e w' => e = .returned (.bool (blankB r)) ∧ w = w' := by
  go_enter Tryz.func121, Tryz.ntmps121
  go_wp2
  all_goals (go_ret; exact ⟨ret_eq (by simp [blankB]; try omega), rfl⟩)

set_option maxHeartbeats 400000 in
theorem isLetter_any (r : Int) (w : World) :
    Calls Tryz.prog 115 #[.int .i32 r] w fun e w' => e = .returned (.bool (letterB r)) ∧ w = w' := by
  go_enter Tryz.func115, Tryz.ntmps115
  go_wp2
  all_goals (go_ret; exact ⟨ret_eq (by simp only [letterB, decide_eq_true_eq, Bool.and_eq_true, bne_iff_ne, beq_iff_eq, beq_eq_false_iff_ne, ne_eq, Bool.false_eq_true, true_iff, false_iff] at *; omega), rfl⟩)

theorem ret_kb {a c : Int} {b d : Bool} (h : a = c) (h2 : b = d) : Ending.returned (.tuple #[.int .i64 a, .bool b]) = .returned (.tuple #[.int .i64 c, .bool d]) := by rw [h, h2]

/-- The spellings, by their kinds. -/
def spS : List (List UInt8) := [[], [], [], [97, 114, 114], [102, 110], [119, 104, 101, 114, 101], [108, 101, 116], [105, 102], [101, 108, 115, 101], [119, 104, 105, 108, 101], [114, 101, 116, 117, 114, 110], [111, 117, 116], [40], [41], [123], [125], [91], [93], [44], [59], [61], [61, 61], [33, 61], [60], [60, 61], [62], [62, 61], [43], [45], [42], [47], [37], [38, 38], [124, 124]]
def spL (k : Nat) : List UInt8 := spS.getD k []
def sp (k : Nat) : ByteArray := ⟨(spL k).toArray⟩
theorem sp_list (k : Nat) : (sp k).toList = spL k := by unfold sp; rw [ByteArray.toList_mk]
theorem sp_data (k : Nat) : (sp k).data.toList = spL k := rfl
/-- The table of the spellings lies in the world. -/
def Tab (w : World) : Prop := ∀ i : Nat, i < 34 → w.cell? ⟨0, i, none⟩ = some (.string (sp i))

/-- The first kind from k on whose spelling this is; 0: there is none. -/
def spFrom (l : List UInt8) (k : Nat) : Nat → Nat
  | 0 => 0
  | n + 1 => if spL k = l then k else spFrom l (k + 1) n
def spK (l : List UInt8) : Nat := spFrom l 3 31
def spB (l : List UInt8) : Bool := decide (spK l ≠ 0)

theorem spFrom_at {l : List UInt8} {k n m : Nat} (h : k + n = 34) (hm : m = spFrom l k n) (hk : k < 34) : m = if spL k = l then k else spFrom l (k + 1) (33 - k) := by
  obtain ⟨n', rfl⟩ : ∃ n', n = n' + 1 := ⟨n - 1, by omega⟩
  have : n' = 33 - k := by omega
  subst this
  exact hm

theorem sp_eq {k : Nat} {s : ByteArray} {b : Bool} (h : ((sp k).toList == s.toList) = b) : (spL k = s.data.toList) ↔ b = true := by
  rw [sp_list, ByteArray.toList_eq] at h
  rw [← h, beq_iff_eq]

set_option maxHeartbeats 400000 in
theorem spelled_any (s : ByteArray) (w : World) (ht : Tab w) :
    Calls Tryz.prog 181 #[.string s] w fun e w' => e = .returned (.tuple #[.int .i64 (spK s.data.toList), .bool (spB s.data.toList)]) ∧ w = w' := by
  go_enter Tryz.func181, Tryz.ntmps181
  go_wp2
  go_loop [4] (fun i => ∃ k : Nat, 3 ≤ k ∧ k ≤ 34 ∧ i = .int .i64 k ∧ spK s.data.toList = spFrom s.data.toList k (34 - k)) (fun i => 34 - (intOf i).toNat)
  case atStart => exact ⟨3, by omega, by omega, rfl, rfl⟩
  case round =>
    obtain ⟨k, hk3, hk, rfl, HK⟩ := hrel
    have HH : Hid (spK s.data.toList = spFrom s.data.toList k (34 - k)) := HK
    clear HK
    by_cases hlt : k < 34
    · have hc := ht k hlt
      go_wp2
      · have h := sp_eq (by assumption)
        have hk2 := spFrom_at (by omega) HH.out hlt
        rw [if_pos (h.2 rfl)] at hk2
        go_ret2
        exact ⟨ret_kb (by rw [hk2]) (by unfold spB; exact (decide_eq_true (by omega)).symm), rfl⟩
      · have h := sp_eq (by assumption)
        have hk2 := spFrom_at (by omega) HH.out hlt
        rw [if_neg (fun e => by simpa using h.1 e)] at hk2
        go_round
        case rel => exact ⟨k + 1, by omega, by omega, by go_num, by rw [hk2, show 33 - k = 34 - (k + 1) from by omega]⟩
        case measure => simp [intOf]; omega
    · have : k = 34 := by omega
      subst this
      have h0 : Hid (spK s.data.toList = 0) := HH.out
      clear HH
      go_wp2
      go_ret2
      exact ⟨ret_kb (by rw [h0.out]; rfl) (by unfold spB; exact (decide_eq_false (by rw [h0.out]; exact fun e => e rfl)).symm), rfl⟩

theorem hasPrefix_size (s p : List UInt8) (h : ¬ p.length ≤ s.length) : Lib.hasPrefix s p = false := by
  unfold Lib.hasPrefix
  rw [Bool.eq_false_iff]
  intro e
  have := List.IsPrefix.length_le (List.isPrefixOf_iff_prefix.1 e)
  omega

set_option maxHeartbeats 400000 in
theorem lite_HasPrefix_any (s p : ByteArray) (w : World) :
    Calls Tryz.prog 239 #[.string s, .string p] w fun e w' => e = .returned (.bool (Lib.hasPrefix s.data.toList p.data.toList)) ∧ w = w' := by
  rw [← Lib.hasPrefix_of_take, ← Lib.size_eq, ← Lib.size_eq]
  go_enter Tryz.func239, Tryz.ntmps239
  go_wp2
  · rename_i h
    go_ret
    refine ⟨?_, rfl⟩
    show Ending.returned (Value.bool ((s.extract 0 p.size).toList == p.toList)) = _
    rw [Lib.extract_toList, Lib.toList_data]
    simp [h]
  · rename_i h
    go_ret
    refine ⟨?_, rfl⟩
    show Ending.returned (Value.bool false) = _
    simp [h]

set_option maxHeartbeats 400000 in
theorem HasPrefix_any (s p : ByteArray) (w : World) :
    Calls Tryz.prog 179 #[.string s, .string p] w fun e w' => e = .returned (.bool (Lib.hasPrefix s.data.toList p.data.toList)) ∧ w = w' := by
  go_enter Tryz.func179, Tryz.ntmps179
  go_wp2_with (go_at_call 239; refine (lite_HasPrefix_any _ _ _).mono ?_; rintro e w' ⟨rfl, rfl⟩)
  go_ret
  exact ⟨rfl, rfl⟩

/-- Does this begin a sign's spelling, from kind k on? -/
def bsFrom (l : List UInt8) (k : Nat) : Nat → Bool
  | 0 => false
  | n + 1 => Lib.hasPrefix (spL k) l || bsFrom l (k + 1) n
def bsB (l : List UInt8) : Bool := bsFrom l 12 22

theorem bsFrom_at {l : List UInt8} {k n : Nat} {m : Bool} (h : k + n = 34) (hm : m = bsFrom l k n) (hk : k < 34) : m = (Lib.hasPrefix (spL k) l || bsFrom l (k + 1) (34 - (k + 1))) := by
  obtain ⟨n', rfl⟩ : ∃ n', n = n' + 1 := ⟨n - 1, by omega⟩
  have : n' = 34 - (k + 1) := by omega
  subst this
  exact hm

set_option maxHeartbeats 400000 in
theorem beginsSign_any (s : ByteArray) (w : World) (ht : Tab w) :
    Calls Tryz.prog 117 #[.string s] w fun e w' => e = .returned (.bool (bsB s.data.toList)) ∧ w = w' := by
  go_enter Tryz.func117, Tryz.ntmps117
  go_wp2
  go_loop [3] (fun i => ∃ k : Nat, 12 ≤ k ∧ k ≤ 34 ∧ i = .int .i64 k ∧ bsB s.data.toList = bsFrom s.data.toList k (34 - k)) (fun i => 34 - (intOf i).toNat)
  case atStart => exact ⟨12, by omega, by omega, rfl, rfl⟩
  case round =>
    obtain ⟨k, hk3, hk, rfl, HK⟩ := hrel
    have HH : Hid (bsB s.data.toList = bsFrom s.data.toList k (34 - k)) := HK
    clear HK
    by_cases hlt : k < 34
    · have hc := ht k hlt
      have hk2 := Hid.out (bsFrom_at (by omega) HH.out hlt)
      rw [← sp_data] at hk2
      cases hp : Lib.hasPrefix (sp k).data.toList s.data.toList
      · rw [hp, Bool.false_or] at hk2
        have H2 : Hid (bsB s.data.toList = bsFrom s.data.toList (k + 1) (34 - (k + 1))) := hk2
        clear hk2
        go_wp2_with (go_at_call 179; refine (HasPrefix_any _ _ _).mono ?_; rintro e w' ⟨rfl, rfl⟩)
        go_round
        case rel => exact ⟨k + 1, by omega, by omega, by go_num, H2.out⟩
        case measure => simp [intOf]; omega
      · rw [hp, Bool.true_or] at hk2
        have H2 : Hid (bsB s.data.toList = true) := hk2
        clear hk2
        go_wp2_with (go_at_call 179; refine (HasPrefix_any _ _ _).mono ?_; rintro e w' ⟨rfl, rfl⟩)
        go_ret
        exact ⟨ret_bool H2.out.symm, rfl⟩
    · have : k = 34 := by omega
      subst this
      have h0 : Hid (bsB s.data.toList = false) := HH.out
      clear HH
      go_wp2
      go_ret
      exact ⟨ret_bool h0.out.symm, rfl⟩
end Go.Proofs.YtikffmloeifkpaaGreatDoor
