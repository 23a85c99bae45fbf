/- Walks: two rows of tokens compared; what the document tells of a first text. -/
import Derived.Test.YtejogobhnbjpdaaGreatDoorKj
import Derived.Test.YtejogobhnbjpdaaGreatDoorHa
namespace Go.Proofs.YtejogobhnbjpdaaGreatDoor
set_option linter.unusedVariables false
set_option linter.unusedSimpArgs false
open Go.ChangeShapes Go.WideShapes Go.ChangeAt Go.RowKit

theorem lex_alive : lexL ⟨#[97, 32, 43, 32, 49, 10]⟩ = [(1, ⟨#[97]⟩, 0), (5, ⟨#[43]⟩, 2), (2, ⟨#[49]⟩, 4), (6, ⟨#[]⟩, 5), (0, ⟨#[]⟩, 6)] := by decide +kernel
/-- An element's cells. -/
theorem LAt.cells {w : World} {b off cap n_ : Nat} {l : List Tk} (h : LAt 3 tkV w (.slice (some ⟨b, off, none⟩) n_ cap) l) {i k p : Nat} {x : ByteArray} (hx : l[i]? = some (k, x, p)) :
    b < w.heap.size ∧ w.cell? ⟨b, off + i * 3, none⟩ = some (.int .i64 k) ∧ w.cell? ⟨b, off + i * 3 + 1, none⟩ = some (.string x) ∧ w.cell? ⟨b, off + i * 3 + 2, none⟩ = some (.int .i64 p) := by
  obtain ⟨hl, h⟩ := h
  rcases h with ⟨p, cap, hv, rfl⟩ | ⟨b', off', cap', hv, hb, hcap, hmax, hcell⟩
  · simp at hx
  · injection hv with hv1 hv2 hv3
    injection hv1 with hv1
    injection hv1 with hv4 hv5
    subst hv4; subst hv5
    have g : ∀ j, j < 3 → ∀ z, (tkV (k, x, p))[j]? = some z → w.cell? ⟨b, off + i * 3 + j, none⟩ = some z := fun j hj z hz => by
      have := hcell (i * 3 + j) z (by rw [LF_at l (fun y _ => tkV_len y) i _ hx j hj]; exact hz)
      rw [Nat.add_assoc]; exact this
    exact ⟨hb, g 0 (by omega) _ rfl, g 1 (by omega) _ rfl, g 2 (by omega) _ rfl⟩
end Go.Proofs.YtejogobhnbjpdaaGreatDoor
