/- Walks: names, whether a file can be asked for, where it lies; small calls. -/
import Derived.Test.YtfmcemedaehcoaaDa
namespace Go.Proofs.Ytfmcemedaehcoaa
set_option linter.unusedVariables false
set_option linter.unusedSimpArgs false
open Go.ChangeShapes Go.WideShapes Go.ChangeAt Go.RowKit

def goodN (x : ByteArray) : Bool := decide (1 ≤ x.size) && decide (x.size ≤ 32)
theorem empty_is (x : ByteArray) : x.toList.isEmpty = decide (x.size = 0) := by
  rw [Lib.toList_data, Lib.size_eq]
  cases x.data.toList <;> simp
theorem empty_eq (x : ByteArray) : x.toList = [] ↔ x.size = 0 := by
  rw [Lib.toList_data, Lib.size_eq]
  cases x.data.toList <;> simp
theorem goodN_size {x : ByteArray} (h : goodN x = true) : 1 ≤ x.size ∧ x.size ≤ 32 := by
  unfold goodN at h
  rw [Bool.and_eq_true, decide_eq_true_eq, decide_eq_true_eq] at h
  exact h
set_option maxRecDepth 100000 in
theorem named_any (x : ByteArray) (w : World) : Calls Try.prog 50 #[.string x] w fun e w' => e = .returned (.bool (goodN x)) ∧ w = w' := by
  have he := empty_is x
  by_cases h1 : x.size = 0
  · rw [decide_eq_true h1] at he
    have hp : x.toList = [] := (empty_eq x).2 h1
    have hg : goodN x = false := by unfold goodN; rw [h1]; rfl
    rw [hg]
    clear h1 hg
    go_enter Try.func50, Try.ntmps50
    go_wp2_with fail
    go_ret
    exact ⟨rfl, rfl⟩
  · rw [decide_eq_false h1] at he
    have hp : ¬ x.toList = [] := fun h => h1 ((empty_eq x).1 h)
    by_cases h2 : x.size ≤ 32
    · have h2I : (x.size : Int) ≤ 32 := by omega
      have hg : goodN x = true := by unfold goodN; rw [decide_eq_true (show 1 ≤ x.size by omega), decide_eq_true h2]; rfl
      rw [hg]
      clear h1 h2 hg
      go_enter Try.func50, Try.ntmps50
      go_wp2_with fail
      go_ret
      exact ⟨rfl, rfl⟩
    · have h2I : ¬ (x.size : Int) ≤ 32 := by omega
      have hg : goodN x = false := by unfold goodN; rw [decide_eq_false h2, Bool.and_false]
      rw [hg]
      clear h1 h2 hg
      go_enter Try.func50, Try.ntmps50
      go_wp2_with fail
      go_ret
      exact ⟨rfl, rfl⟩
def readyE (h : Hd) (x : ByteArray) : Int := if h.down = true then 7 else if goodN x = true then 0 else 1
set_option maxRecDepth 100000 in
theorem ready_any {S : Nat → Prop} {b : Nat} {h : Hd} {L : List Fl} {w : World} (d : Dev S b h L w) (x : ByteArray) : Calls Try.prog 45 #[.pointer (some ⟨b, 0, none⟩), .string x] w fun e w' => e = .returned (.int .i64 (readyE h x)) ∧ w = w' := by
  obtain ⟨mb, hb, _⟩ := d.f
  have HN := Lib.hid (fun w1 => named_any x w1)
  obtain ⟨room, acts, down, left, keep, torn⟩ := h
  have c3 : w.cell? ⟨b, 3, none⟩ = some (.bool down) := block_cell hb 3
  simp only [readyE]
  clear d hb
  cases down with
  | true =>
    go_enter Try.func45, Try.ntmps45
    go_wp2_with fail
    go_ret
    exact ⟨rfl, rfl⟩
  | false =>
    cases hg : goodN x with
    | true =>
      rw [hg] at HN
      go_enter Try.func45, Try.ntmps45
      go_wp2_with fail
      refine (HN.out _).mono ?_
      rintro e1 w1 ⟨rfl, rfl⟩
      go_wp2_with fail
      go_ret
      exact ⟨rfl, rfl⟩
    | false =>
      rw [hg] at HN
      go_enter Try.func45, Try.ntmps45
      go_wp2_with fail
      refine (HN.out _).mono ?_
      rintro e1 w1 ⟨rfl, rfl⟩
      go_wp2_with fail
      go_ret
      exact ⟨rfl, rfl⟩
theorem ready_nil (x : ByteArray) (w : World) : Calls Try.prog 45 #[.pointer none, .string x] w fun e w' => e = .returned (.int .i64 2) ∧ w = w' := by
  go_enter Try.func45, Try.ntmps45
  go_wp2_with fail
  go_ret
  exact ⟨rfl, rfl⟩
/-- What find answers. -/
def findP (h : Hd) (L : List Fl) (x : ByteArray) : Value := if readyE h x ≠ 0 then .pointer none else ptrV ((look L x).map Fl.B)
def findE (h : Hd) (L : List Fl) (x : ByteArray) : Int := if readyE h x ≠ 0 then readyE h x else if (look L x).isSome = true then 0 else 5
theorem readyE_ok {h : Hd} {x : ByteArray} (hr : readyE h x = 0) : h.down = false ∧ goodN x = true := by
  unfold readyE at hr
  split at hr
  · cases hr
  · split at hr
    · rename_i h1 h2; exact ⟨by simpa using h1, h2⟩
    · cases hr
set_option maxRecDepth 100000 in
theorem find_any {S : Nat → Prop} {b : Nat} {h : Hd} {L : List Fl} {w : World} (d : Dev S b h L w) (x : ByteArray) : Calls Try.prog 40 #[.pointer (some ⟨b, 0, none⟩), .string x] w fun e w' => e = .returned (.tuple #[findP h L x, .int .i64 (findE h L x)]) ∧ w = w' := by
  have HR := Lib.hid (ready_any d x)
  obtain ⟨mb, hb, hm, _⟩ := d.f
  have c1 : w.cell? ⟨b, 1, none⟩ = some (.map (some mb)) := block_cell hb 1
  unfold findP findE
  clear d
  by_cases hr : readyE h x = 0
  · have hx := (goodN_size (readyE_ok hr).2).2
    have hlk := hm.lkp (x := x) (by unfold maxLen; omega)
    rw [hr] at HR
    rw [if_neg (by rw [hr]; decide), if_neg (by rw [hr]; decide)]
    clear hr hb hm
    cases hl : look L x with
    | none =>
      rw [hl] at hlk
      replace hlk : (Instr.lookup 59 (.map (some mb)) (.string x) false).run Try.prog w = .ok (.pointer none) w := hlk
      clear hl
      go_enter Try.func40, Try.ntmps40
      go_wp2_with fail
      refine HR.out.mono ?_
      rintro e1 w1 ⟨rfl, rfl⟩
      go_wp2_with fail
      go_ret2
      exact ⟨rfl, rfl⟩
    | some f =>
      rw [hl] at hlk
      replace hlk : (Instr.lookup 59 (.map (some mb)) (.string x) false).run Try.prog w = .ok (.pointer (some ⟨f.B, 0, none⟩)) w := hlk
      clear hl
      go_enter Try.func40, Try.ntmps40
      go_wp2_with fail
      refine HR.out.mono ?_
      rintro e1 w1 ⟨rfl, rfl⟩
      go_wp2_with fail
      go_ret2
      exact ⟨rfl, rfl⟩
  · rw [if_pos hr, if_pos hr]
    generalize readyE h x = r at *
    have hrb : (r != 0) = true := by simpa using hr
    have hrc : (r == 0) = false := by simpa using hr
    clear hr hb hm
    go_enter Try.func40, Try.ntmps40
    go_wp2_with fail
    refine HR.out.mono ?_
    rintro e1 w1 ⟨rfl, rfl⟩
    go_wp2_with fail
    go_ret2
    exact ⟨rfl, rfl⟩
theorem find_nil (x : ByteArray) (w : World) : Calls Try.prog 40 #[.pointer none, .string x] w fun e w' => e = .returned (.tuple #[.pointer none, .int .i64 2]) ∧ w = w' := by
  have HR := Lib.hid (ready_nil x w)
  go_enter Try.func40, Try.ntmps40
  go_wp2_with fail
  refine HR.out.mono ?_
  rintro e1 w1 ⟨rfl, rfl⟩
  go_wp2_with fail
  go_ret2
  exact ⟨rfl, rfl⟩
end Go.Proofs.Ytfmcemedaehcoaa
