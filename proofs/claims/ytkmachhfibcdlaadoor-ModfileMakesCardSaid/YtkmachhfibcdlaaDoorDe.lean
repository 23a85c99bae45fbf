/- Plain lemmas: what a made line says. -/
import Derived.Test.YtkmachhfibcdlaaDoorDd
namespace Go.Proofs.YtkmachhfibcdlaaDoor
set_option linter.unusedVariables false
set_option linter.unusedSimpArgs false
open Go.ChangeShapes Go.WideShapes Go.ChangeAt Go.RowKit

abbrev wModule : ByteArray := ⟨#[109, 111, 100, 117, 108, 101]⟩
abbrev wGo : ByteArray := ⟨#[103, 111]⟩
abbrev wReplace : ByteArray := ⟨#[114, 101, 112, 108, 97, 99, 101]⟩
abbrev wRequire : ByteArray := ⟨#[114, 101, 113, 117, 105, 114, 101]⟩
abbrev wExclude : ByteArray := ⟨#[101, 120, 99, 108, 117, 100, 101]⟩
abbrev wRetract : ByteArray := ⟨#[114, 101, 116, 114, 97, 99, 116]⟩
theorem verb_module (R : MR) (ws : List ByteArray) : verbR R wModule ws = moduleR R ws := rfl
theorem verb_go (R : MR) (ws : List ByteArray) : verbR R wGo ws = releaseR R ws := rfl
theorem verb_replace (R : MR) (ws : List ByteArray) : verbR R wReplace ws = replaceR R ws := rfl
theorem verb_require (R : MR) (ws : List ByteArray) : verbR R wRequire ws = (decide (0 < ws.length), R) := rfl
theorem verb_exclude (R : MR) (ws : List ByteArray) : verbR R wExclude ws = (decide (0 < ws.length), R) := rfl
theorem verb_retract (R : MR) (ws : List ByteArray) : verbR R wRetract ws = (decide (0 < ws.length), R) := rfl
theorem line_verb {R : MR} {v x : ByteArray} {r : List ByteArray} (hb : R.blk = ⟨#[]⟩) (h : x ≠ ⟨#[40]⟩) : lineR R (v :: x :: r) = verbR R v (x :: r) := by
  unfold lineR
  rw [if_neg (fun k => k hb), if_neg ?_]
  · rfl
  · rintro ⟨_, h2, _⟩
    exact h h2
theorem any_none (cs : List UInt8) : ∀ (l : List UInt8), (∀ b ∈ l, cs.contains b = false) → Lib.indexAny l cs = -1
  | [], _ => rfl
  | b :: l, h => by
    unfold Lib.indexAny
    rw [h b List.mem_cons_self, any_none cs l (fun c hc => h c (List.mem_cons_of_mem _ hc))]
    rfl
theorem word_not {s : ByteArray} (h : wordP s) {a : ByteArray} {c : UInt8} (hc : c ∈ a.data.toList) (hn : c.toNat < 46) : s ≠ a := fun e => by
  have := word_byte h c (by rw [e]; exact hc)
  omega
theorem word_path {s : ByteArray} (h : wordP s) : pathB s = true := by
  unfold pathB
  have : Lib.containsAny s.data.toList wSet.data.toList = false := by
    unfold Lib.containsAny
    rw [any_none _ _ (fun b hb => ?_)]
    · rfl
    · have h1 := word_byte h b hb
      have hall : ∀ n : Fin 256, ((97 ≤ n.val ∧ n.val ≤ 122) ∨ (48 ≤ n.val ∧ n.val ≤ 57) ∨ n.val = 46 ∨ n.val = 47) → wSet.data.toList.contains (UInt8.ofNat n.val) = false := by decide +kernel
      have h2 := hall ⟨b.toNat, b.toNat_lt⟩ h1
      simpa using h2
  rw [this]
  rfl
theorem line_module {R : MR} {p : ByteArray} (hw : wordP p) (hb : R.blk = ⟨#[]⟩) (hp : R.path = ⟨#[]⟩) : lineR R [wModule, p] = (true, { R with path := p }) := by
  rw [line_verb hb (word_not hw (c := 40) (by simp) (by decide)), verb_module]
  unfold moduleR
  rw [if_pos ⟨rfl, hp, word_path hw⟩]
  rfl
theorem line_replace {R : MR} {p d : ByteArray} (hw : wordP p) (hd : dirB d = true) (hb : R.blk = ⟨#[]⟩) (hn : ∀ x ∈ R.reps, x.1 ≠ p) : lineR R [wReplace, p, wArrow, d] = (true, { R with reps := R.reps ++ [(p, d)] }) := by
  rw [line_verb hb (word_not hw (c := 40) (by simp) (by decide)), verb_replace]
  have hne : p ≠ wArrow := fun e => by
    have := word_byte hw 61 (by rw [e]; simp)
    have e2 : (61 : UInt8).toNat = 61 := rfl
    omega
  have hi : Lib.idxOfS [p, wArrow, d] wArrow = 1 := by
    unfold Lib.idxOfS Lib.idxFromS
    rw [if_neg hne]
    unfold Lib.idxFromS
    rw [if_pos rfl]
    rfl
  unfold replaceR
  rw [hi, if_neg (by
    rintro (h | h | h)
    · exact absurd h (by decide)
    · exact absurd h (by decide)
    · rw [show ([p, wArrow, d] : List ByteArray).getD 0 ⟨#[]⟩ = p from rfl, word_path hw] at h
      cases h)]
  show replY R p [d] = _
  unfold replY
  rw [if_neg (by simp), if_neg (by rw [show ([d] : List ByteArray).getD 0 ⟨#[]⟩ = d from rfl, hd]; exact Bool.noConfusion), if_neg ?_]
  · rfl
  · rintro (h | h)
    · exact h rfl
    · rw [List.any_eq_true] at h
      obtain ⟨x, hx, he⟩ := h
      exact hn x hx (of_decide_eq_true he)
theorem line_require {R : MR} {o v : ByteArray} (hw : wordP o) (hb : R.blk = ⟨#[]⟩) : lineR R [wRequire, o, v] = (true, R) := by
  rw [line_verb hb (word_not hw (c := 40) (by simp) (by decide)), verb_require]
  rfl
theorem line_exclude {R : MR} {o v : ByteArray} (hw : wordP o) (hb : R.blk = ⟨#[]⟩) : lineR R [wExclude, o, v] = (true, R) := by
  rw [line_verb hb (word_not hw (c := 40) (by simp) (by decide)), verb_exclude]
  rfl
theorem line_retract {R : MR} {o : ByteArray} (hw : wordP o) (hb : R.blk = ⟨#[]⟩) : lineR R [wRetract, o] = (true, R) := by
  rw [line_verb hb (word_not hw (c := 40) (by simp) (by decide)), verb_retract]
  rfl
/-- A level of one digit. -/
def lvB (n : Nat) : ByteArray := ⟨#[49, 46, UInt8.ofNat (48 + n)]⟩
theorem lv_level : ∀ n, n ≤ 9 → levelB (lvB n) = some (n : Int) := fun n hn => by
  have : ∀ m : Fin 10, levelB (lvB m.val) = some (m.val : Int) := by decide +kernel
  exact this ⟨n, by omega⟩
theorem line_go {R : MR} {n : Nat} (hn : n ≤ 9) (hb : R.blk = ⟨#[]⟩) (hl : R.lev = false) : lineR R [wGo, lvB n] = (true, { R with lvl := (n : Int), lev := true }) := by
  rw [line_verb hb (by
    intro e
    have := congrArg ByteArray.size e
    simp [lvB, ByteArray.size] at this), verb_go]
  unfold releaseR
  rw [if_pos ⟨rfl, hl⟩, show ([lvB n] : List ByteArray).getD 0 ⟨#[]⟩ = lvB n from rfl, lv_level n hn]
end Go.Proofs.YtkmachhfibcdlaaDoor
