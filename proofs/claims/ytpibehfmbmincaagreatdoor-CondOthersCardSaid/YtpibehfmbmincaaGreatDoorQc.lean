/- Plain lemmas: lines of the elder form in the newer one. -/
import Derived.Test.YtpibehfmbmincaaGreatDoorQb
import Derived.Test.YtpibehfmbmincaaGreatDoorWa
import Derived.Lib.Join
namespace Go.Proofs.YtpibehfmbmincaaGreatDoor
set_option linter.unusedSimpArgs false
open Go.Lib

def trimB (t : ByteArray) : ByteArray := mkB (Lib.trimPrefix t.data.toList [33])
def okT (t : ByteArray) : Bool := tagB (trimB t)
def wrapB (sep : ByteArray) (l : List ByteArray) : ByteArray := match l with
  | [] => noneB
  | [x] => x
  | x :: y :: r => mkB (40 :: (Lib.join ((x :: y :: r).map (·.data.toList)) sep.data.toList ++ [41]))
def andS : ByteArray := ⟨#[32, 38, 38, 32]⟩
def orS : ByteArray := ⟨#[32, 124, 124, 32]⟩
def idB (x : ByteArray) : ByteArray := x
def okO (o : ByteArray) : Bool := (cutB 44 o).all okT
def valO (o : ByteArray) : ByteArray := wrapB andS ((cutB 44 o).map idB)
def okL (s : ByteArray) : Bool := !(wordsB s).isEmpty && (wordsB s).all okO
def valL (s : ByteArray) : ByteArray := wrapB orS ((wordsB s).map valO)
def okLs (l : List ByteArray) : Bool := !l.isEmpty && l.all okL
def valLs (l : List ByteArray) : ByteArray := wrapB andS (l.map valL)
/-- What join answers. -/
def joinR (ok : ByteArray → Bool) (val : ByteArray → ByteArray) (sep : ByteArray) (ss : List ByteArray) : ByteArray × Int :=
  if !ss.isEmpty && ss.all ok then (wrapB sep (ss.map val), 0) else (noneB, 4)
theorem joinR_yes {ok : ByteArray → Bool} {val : ByteArray → ByteArray} {sep : ByteArray} {ss : List ByteArray} (h : (!ss.isEmpty && ss.all ok) = true) : joinR ok val sep ss = (wrapB sep (ss.map val), 0) := if_pos h
theorem joinR_no {ok : ByteArray → Bool} {val : ByteArray → ByteArray} {sep : ByteArray} {ss : List ByteArray} (h : (!ss.isEmpty && ss.all ok) = false) : joinR ok val sep ss = (noneB, 4) := if_neg (by rw [h]; decide)

/-- The bytes of texts, all together. -/
def sums : List ByteArray → Nat | [] => 0 | x :: r => x.size + sums r
theorem join_len (l : List ByteArray) (sep : List UInt8) : (Lib.join (l.map (·.data.toList)) sep).length ≤ sums l + l.length * sep.length := by
  induction l with
  | nil => simp [Lib.join]
  | cons x r ih =>
    cases r with
    | nil => simp [Lib.join, sums, ba_len]
    | cons y q =>
      have e : Lib.join ((x :: y :: q).map (·.data.toList)) sep = x.data.toList ++ sep ++ Lib.join ((y :: q).map (·.data.toList)) sep := by simp [Lib.join]
      rw [e, List.length_append, List.length_append, ba_len]
      simp only [sums, List.length_cons] at ih ⊢
      rw [Nat.add_mul, Nat.one_mul]
      omega
theorem wrap_size (sep : ByteArray) (l : List ByteArray) : (wrapB sep l).size ≤ sums l + l.length * sep.size + 2 := by
  match l with
  | [] => exact Nat.zero_le _
  | [x] => simp [wrapB, sums]; omega
  | x :: y :: r =>
    have h := join_len (x :: y :: r) sep.data.toList
    rw [ba_len] at h
    show (mkB _).size ≤ _
    rw [mkB_size, List.length_cons, List.length_append]
    simp only [List.length_cons, List.length_nil] at h ⊢
    omega
theorem sums_map (f : ByteArray → ByteArray) (a b : Nat) (h : ∀ x, (f x).size ≤ a * x.size + b) : ∀ l : List ByteArray, sums (l.map f) ≤ a * sums l + b * l.length
  | [] => by simp [sums]
  | x :: r => by
    have h1 := h x
    have h2 := sums_map f a b h r
    simp only [List.map_cons, sums, List.length_cons]
    rw [Nat.mul_add, Nat.mul_add, Nat.mul_one]
    omega
theorem sums_cuts (c : UInt8) (l : List UInt8) : ∀ cur, sums ((cuts c cur l).map mkB) + (cuts c cur l).length = cur.length + l.length + 1 := by
  induction l with
  | nil => intro cur; simp [cuts, sums, mkB_size]
  | cons x r ih =>
    intro cur
    unfold cuts
    split
    · have := ih []
      simp only [List.map_cons, sums, mkB_size, List.length_cons, List.length_nil] at this ⊢
      omega
    · have := ih (cur ++ [x])
      simp only [List.length_append, List.length_cons, List.length_nil] at this ⊢
      omega
theorem sums_cutB (c : UInt8) (s : ByteArray) : sums (cutB c s) + (cutB c s).length = s.size + 1 := by
  have := sums_cuts c s.data.toList []
  rw [ba_len] at this
  unfold cutB
  rw [List.length_map]
  simpa using this
theorem flush_sums (cur : List UInt8) (r : List (List UInt8)) : sums ((flush cur r).map mkB) = cur.length + sums (r.map mkB) ∧ (flush cur r).length ≤ cur.length + r.length := by
  cases cur with
  | nil => simp [flush_nil]
  | cons a l =>
    rw [flush_ne (by simp)]
    refine ⟨?_, ?_⟩
    · show (mkB (a :: l)).size + sums (r.map mkB) = _
      rw [mkB_size]
    · show r.length + 1 ≤ (l.length + 1) + r.length
      omega
theorem sums_wF : ∀ (l cur : List UInt8), sums ((wF l cur).map mkB) ≤ cur.length + l.length ∧ (wF l cur).length ≤ cur.length + l.length
  | [], cur => by
    rw [wF_nil]
    obtain ⟨h1, h2⟩ := flush_sums cur []
    have e0 : sums (([] : List (List UInt8)).map mkB) = 0 := rfl
    have e1 : ([] : List (List UInt8)).length = 0 := rfl
    have e2 : ([] : List UInt8).length = 0 := rfl
    rw [e0] at h1
    rw [e1] at h2
    rw [e2]
    exact ⟨by omega, by omega⟩
  | b :: r, cur => by
    cases hb : blank b with
    | true =>
      rw [wF_yes hb]
      have h1 := flush_sums cur (wF r [])
      have h2 := sums_wF r []
      simp only [List.length_nil, List.length_cons] at h2 ⊢
      omega
    | false =>
      rw [wF_no hb]
      have h2 := sums_wF r (cur ++ [b])
      simp only [List.length_append, List.length_cons, List.length_nil] at h2 ⊢
      omega
theorem sums_words (s : ByteArray) : sums (wordsB s) ≤ s.size ∧ (wordsB s).length ≤ s.size := by
  have := sums_wF s.data.toList []
  rw [ba_len] at this
  unfold wordsB
  rw [List.length_map]
  simpa using this
theorem andS_size : andS.size = 4 := rfl
theorem orS_size : orS.size = 4 := rfl
theorem valO_size (o : ByteArray) : (valO o).size ≤ 5 * o.size + 7 := by
  have h1 := wrap_size andS ((cutB 44 o).map idB)
  have h2 := sums_cutB 44 o
  have e : (cutB 44 o).map idB = cutB 44 o := List.map_id' _
  rw [e, andS_size] at h1
  unfold valO
  rw [e]
  omega
theorem valL_size (s : ByteArray) : (valL s).size ≤ 16 * s.size + 2 := by
  have h1 := wrap_size orS ((wordsB s).map valO)
  have h2 := sums_words s
  have h3 := sums_map valO 5 7 valO_size (wordsB s)
  rw [orS_size, List.length_map] at h1
  unfold valL
  omega
theorem valLs_size (l : List ByteArray) : (valLs l).size ≤ 16 * sums l + 6 * l.length + 2 := by
  have h1 := wrap_size andS (l.map valL)
  have h3 := sums_map valL 16 2 valL_size l
  rw [andS_size, List.length_map] at h1
  unfold valLs
  omega
end Go.Proofs.YtpibehfmbmincaaGreatDoor
