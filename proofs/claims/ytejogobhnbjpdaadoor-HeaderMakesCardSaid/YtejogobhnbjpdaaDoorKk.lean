/- Walks: two rows of tokens compared; what the document tells of a first text. -/
import Derived.Test.YtejogobhnbjpdaaDoorKj
import Derived.Test.YtejogobhnbjpdaaDoorHa
namespace Go.Proofs.YtejogobhnbjpdaaDoor
set_option linter.unusedVariables false
set_option linter.unusedSimpArgs false
open Go.ChangeShapes Go.WideShapes Go.ChangeAt Go.RowKit

theorem lex_alive : lexL ⟨#[97, 32, 43, 32, 49, 10]⟩ = [(1, ⟨#[97]⟩, 0), (5, ⟨#[43]⟩, 2), (2, ⟨#[49]⟩, 4), (6, ⟨#[]⟩, 5), (0, ⟨#[]⟩, 6)] := by decide +kernel
/-- An element's cells. -/
theorem LAt.cells {w : World} {b off cap n_ : Nat} {l : List Tk} (h : LAt 3 tkV w (.slice (some ⟨b, off, none⟩) n_ cap) l) {i k p : Nat} {x : ByteArray} (hx : l[i]? = some (k, x, p)) :
    b < w.heap.size ∧ w.cell? ⟨b, off + i * 3, none⟩ = some (.int .i64 k) ∧ w.cell? ⟨b, off + i * 3 + 1, none⟩ = some (.string x) ∧ w.cell? ⟨b, off + i * 3 + 2, none⟩ = some (.int .i64 p) := by
  obtain ⟨hl, h⟩ := h
  rcases h with ⟨p, cap, hv, rfl⟩ | ⟨b', off', cap', hv, hb, hcap, hmax, hcell⟩
  · simp at hx
  · injection hv with hv1 hv2 hv3
    injection hv1 with hv1
    injection hv1 with hv4 hv5
    subst hv4; subst hv5
    have g : ∀ j, j < 3 → ∀ z, (tkV (k, x, p))[j]? = some z → w.cell? ⟨b, off + i * 3 + j, none⟩ = some z := fun j hj z hz => by
      have := hcell (i * 3 + j) z (by rw [LF_at l (fun y _ => tkV_len y) i _ hx j hj]; exact hz)
      rw [Nat.add_assoc]; exact this
    exact ⟨hb, g 0 (by omega) _ rfl, g 1 (by omega) _ rfl, g 2 (by omega) _ rfl⟩
set_option maxRecDepth 100000 in
set_option maxHeartbeats 1000000 in
theorem alive_any (w : World) (hTab : Tabs w) : Calls Tryd.prog 12 #[] w (LawEnd w) := by
  have HK := Lib.hid (lex_any ⟨#[97, 32, 43, 32, 49, 10]⟩ w (by decide) hTab)
  rw [lex_alive] at HK
  clear hTab
  go_enter Tryd.func12, Tryd.ntmps12
  go_wp2_with fail
  refine HK.out.mono ?_
  rintro r w1 ⟨v, rfl, hT, hB⟩
  have HB := Lib.hid hB
  obtain ⟨p, cap, rfl, hp⟩ := hT.shape
  obtain ⟨b, off, rfl⟩ := hp (by decide)
  have e0 : w1.cell? ⟨b, off, none⟩ = some (.int .i64 1) := (hT.cells (i := 0) rfl).2.1
  have e1 : w1.cell? ⟨b, off + 4, none⟩ = some (.string ⟨#[43]⟩) := (hT.cells (i := 1) rfl).2.2.1
  have e2 : w1.cell? ⟨b, off + 6, none⟩ = some (.int .i64 2) := (hT.cells (i := 2) rfl).2.1
  have e30 : w1.cell? ⟨b, off + 9, none⟩ = some (.int .i64 6) := (hT.cells (i := 3) rfl).2.1
  have e31 : w1.cell? ⟨b, off + 10, none⟩ = some (.string ⟨#[]⟩) := (hT.cells (i := 3) rfl).2.2.1
  have e32 : w1.cell? ⟨b, off + 11, none⟩ = some (.int .i64 5) := (hT.cells (i := 3) rfl).2.2.2
  have e4 : w1.cell? ⟨b, off + 12, none⟩ = some (.int .i64 0) := (hT.cells (i := 4) rfl).2.1
  clear hT hB hp
  go_wp2_with fail
  go_ret
  exact ⟨rfl, HB.out⟩
end Go.Proofs.YtejogobhnbjpdaaDoor
