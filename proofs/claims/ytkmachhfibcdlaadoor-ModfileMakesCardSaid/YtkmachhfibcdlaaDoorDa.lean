/- Plain lemmas: notes and blanks change nothing but the numbers of lines. -/
import Derived.Test.YtkmachhfibcdlaaDoorCg
namespace Go.Proofs.YtkmachhfibcdlaaDoor
set_option linter.unusedVariables false
set_option linter.unusedSimpArgs false
open Go.ChangeShapes Go.WideShapes Go.ChangeAt Go.RowKit

def cutN (l : List UInt8) : List UInt8 := (Lib.cut l [47, 47]).1
theorem cutN_nil : cutN [] = [] := rfl
theorem cutN_cons (b : UInt8) (l : List UInt8) : cutN (b :: l) = if [47, 47].isPrefixOf (b :: l) = true then [] else b :: cutN l := by
  unfold cutN Lib.cut
  have hi : Lib.index (b :: l) [47, 47] = if [47, 47].isPrefixOf (b :: l) = true then 0 else if Lib.index l [47, 47] == -1 then -1 else Lib.index l [47, 47] + 1 := rfl
  rw [hi]
  have hg := Lib.index_ge l [47, 47]
  by_cases hp : [47, 47].isPrefixOf (b :: l) = true
  · rw [if_pos hp, if_pos hp, if_pos (Int.le_refl _)]
    rfl
  rw [if_neg hp, if_neg hp]
  by_cases h1 : Lib.index l [47, 47] = -1
  · rw [if_pos (beq_iff_eq.2 h1), if_neg (by decide), h1, if_neg (by decide)]
  · rw [if_neg (fun e => h1 (beq_iff_eq.1 e)), if_pos (by omega), if_pos (by omega)]
    obtain ⟨n, hn⟩ := Int.eq_ofNat_of_zero_le (show 0 ≤ Lib.index l [47, 47] by omega)
    rw [hn]
    rfl
theorem noteB_list (l : ByteArray) : (noteB l).data.toList = cutN l.data.toList := rfl
theorem pre2 (b c : UInt8) (l : List UInt8) : [47, 47].isPrefixOf (b :: c :: l) = (b == 47 && c == 47) := by
  simp only [List.isPrefixOf, Bool.and_true]
  rw [show ((47 : UInt8) == b) = (b == 47) from by rw [Bool.eq_iff_iff, beq_iff_eq, beq_iff_eq]; exact eq_comm, show ((47 : UInt8) == c) = (c == 47) from by rw [Bool.eq_iff_iff, beq_iff_eq, beq_iff_eq]; exact eq_comm]
theorem pre1 (b : UInt8) : [47, 47].isPrefixOf [b] = false := by
  simp [List.isPrefixOf]
theorem words_note (r : List UInt8) : ∀ (l cur : List UInt8), wF (cutN (l ++ 32 :: 47 :: 47 :: r)) cur = wF (cutN l) cur
  | [], cur => by
    rw [List.nil_append, cutN_cons, pre2, if_neg (by decide), cutN_cons, pre2, if_pos (by decide), cutN_nil, wF_yes (by decide), wF_nil, wF_nil]
    rfl
  | [b], cur => by
    have h1 : cutN ([b] ++ 32 :: 47 :: 47 :: r) = b :: cutN ([] ++ 32 :: 47 :: 47 :: r) := by
      show cutN (b :: 32 :: 47 :: 47 :: r) = _
      rw [cutN_cons, pre2, if_neg (by simp)]
      rfl
    have h2 : cutN [b] = b :: cutN [] := by rw [cutN_cons, pre1, if_neg (by decide)]
    rw [h1, h2]
    cases hb : blank b with
    | true => rw [wF_yes hb, wF_yes hb, words_note r [] []]
    | false => rw [wF_no hb, wF_no hb, words_note r [] _]
  | b :: c :: l, cur => by
    have h1 : cutN (b :: c :: l ++ 32 :: 47 :: 47 :: r) = if (b == 47 && c == 47) = true then [] else b :: cutN (c :: l ++ 32 :: 47 :: 47 :: r) := by
      show cutN (b :: c :: (l ++ 32 :: 47 :: 47 :: r)) = _
      rw [cutN_cons, pre2]
      rfl
    rw [h1, cutN_cons b, pre2]
    split
    · rfl
    · cases hb : blank b with
      | true => rw [wF_yes hb, wF_yes hb, words_note r (c :: l) []]
      | false => rw [wF_no hb, wF_no hb, words_note r (c :: l) _]
/-- The two lines that a line becomes. -/
def lineA (note : List UInt8) : List UInt8 := [9, 32, 13, 47, 47] ++ note
def lineB (note l : List UInt8) : List UInt8 := [32, 9] ++ l ++ 32 :: 47 :: 47 :: note
theorem words_A (note : List UInt8) : wordsL (mkB (lineA note)) = [] := by
  unfold wordsL wordsB
  rw [noteB_list, mkB_toList]
  have : cutN (lineA note) = [9, 32, 13] := by
    show cutN (9 :: 32 :: 13 :: 47 :: 47 :: note) = _
    rw [cutN_cons, pre2, if_neg (by decide), cutN_cons, pre2, if_neg (by decide), cutN_cons, pre2, if_neg (by decide), cutN_cons, pre2, if_pos (by decide)]
  rw [this]
  rfl
theorem words_B (note : List UInt8) (l : ByteArray) : wordsL (mkB (lineB note l.data.toList)) = wordsL l := by
  unfold wordsL wordsB
  rw [noteB_list, noteB_list, mkB_toList]
  congr 1
  show wF (cutN (32 :: 9 :: (l.data.toList ++ 32 :: 47 :: 47 :: note))) [] = _
  have h : cutN (32 :: 9 :: (l.data.toList ++ 32 :: 47 :: 47 :: note)) = 32 :: 9 :: cutN (l.data.toList ++ 32 :: 47 :: 47 :: note) := by
    rw [cutN_cons, pre2, if_neg (by decide), cutN_cons, if_neg ?_]
    cases l.data.toList ++ 32 :: 47 :: 47 :: note with
    | nil => rw [pre1]; decide
    | cons c r => rw [pre2]; simp
  rw [h, wF_yes (by decide), flush_nil, wF_yes (by decide), flush_nil, words_note]
/-- The lines of a text, each made two. -/
def twoB (note : List UInt8) (l : ByteArray) : List ByteArray := [mkB (lineA note), mkB (lineB note l.data.toList)]
theorem goM_two (note : List UInt8) : ∀ (X : List ByteArray) (R : MR) (i : Nat), goM R (2 * i) (X.flatMap (twoB note)) = ((goM R i X).1 * 2, (goM R i X).2)
  | [], R, i => rfl
  | l :: X, R, i => by
    show goM R (2 * i) (mkB (lineA note) :: mkB (lineB note l.data.toList) :: X.flatMap (twoB note)) = _
    rw [goM_dull (words_A note)]
    have hw := words_B note l
    by_cases h0 : wordsL l = []
    · rw [goM_dull (hw.trans h0), goM_dull h0, show 2 * i + 1 + 1 = 2 * (i + 1) by omega, goM_two note X]
    cases h1 : (lineR R (wordsL l)).1 with
    | true => rw [goM_on (by rw [hw]; exact h0) (by rw [hw]; exact h1), goM_on h0 h1, hw, show 2 * i + 1 + 1 = 2 * (i + 1) by omega, goM_two note X]
    | false => rw [goM_bad (by rw [hw]; exact h0) (by rw [hw]; exact h1), goM_bad h0 h1, show 2 * i + 1 + 1 = (i + 1) * 2 by omega]
theorem two_len (note : List UInt8) : ∀ (X : List ByteArray), (X.flatMap (twoB note)).length = X.length * 2
  | [] => rfl
  | l :: X => by
    show (twoB note l ++ X.flatMap (twoB note)).length = _
    rw [List.length_append, two_len note X, List.length_cons]
    show 2 + _ = _
    omega
theorem mod_two (note : List UInt8) (X : List ByteArray) : (0 < (modX X).fault → (modX (X.flatMap (twoB note))).fault = 2 * (modX X).fault) ∧ ((modX X).fault = 0 → modX (X.flatMap (twoB note)) = modX X) := by
  have hg := goM_two note X R0 0
  rw [Nat.mul_zero] at hg
  unfold modX
  rw [hg, two_len]
  generalize goM R0 0 X = r
  obtain ⟨k, R⟩ := r
  unfold endM
  dsimp only
  by_cases hk : k = 0
  · subst hk
    simp only [Nat.zero_mul, ne_eq, not_true_eq_false, if_false]
    split
    · exact ⟨fun _ => Nat.mul_comm _ _, fun h => by
        dsimp only at h
        rw [h]⟩
    · exact ⟨fun h => absurd h (Nat.lt_irrefl _), fun _ => rfl⟩
  · rw [if_pos (show k * 2 ≠ 0 by omega), if_pos (show k ≠ 0 from hk)]
    exact ⟨fun _ => Nat.mul_comm _ _, fun h => absurd h hk⟩
/-- The text that the lines are made to. -/
def pieceB (note l : List UInt8) : List UInt8 := lineA note ++ 10 :: lineB note l
def textT (note : List UInt8) : List (List UInt8) → List UInt8
  | [] => []
  | [x] => pieceB note x
  | x :: y :: r => pieceB note x ++ 10 :: textT note (y :: r)
theorem textT_snoc (note x : List UInt8) : ∀ (X : List (List UInt8)), X ≠ [] → textT note (X ++ [x]) = textT note X ++ 10 :: pieceB note x
  | [], h => absurd rfl h
  | [y], _ => rfl
  | y :: z :: r, _ => by
    show pieceB note y ++ 10 :: textT note (z :: r ++ [x]) = (pieceB note y ++ 10 :: textT note (z :: r)) ++ 10 :: pieceB note x
    rw [textT_snoc note x (z :: r) (List.cons_ne_nil _ _), List.append_assoc]
    rfl
theorem cuts_piece (note x : List UInt8) (hn : (10 : UInt8) ∉ note) (hx : (10 : UInt8) ∉ x) : cuts 10 [] (pieceB note x) = [lineA note, lineB note x] := by
  unfold pieceB
  rw [cuts_append, cuts_none _ _ _ (by unfold lineA; simp [hn]), cuts_none _ _ _ (by unfold lineB; simp [hn, hx])]
  rfl
theorem cuts_textT (note : List UInt8) (hn : (10 : UInt8) ∉ note) : ∀ (X : List (List UInt8)), X ≠ [] → (∀ x ∈ X, (10 : UInt8) ∉ x) → cuts 10 [] (textT note X) = X.flatMap (fun x => [lineA note, lineB note x])
  | [], h, _ => absurd rfl h
  | [x], _, hX => by
    rw [textT, cuts_piece note x hn (hX x List.mem_cons_self)]
    rfl
  | x :: y :: r, _, hX => by
    rw [textT, cuts_append, cuts_piece note x hn (hX x List.mem_cons_self), cuts_textT note hn (y :: r) (List.cons_ne_nil _ _) (fun z hz => hX z (List.mem_cons_of_mem _ hz))]
    rfl
theorem blank_mod (s : ByteArray) (note t : List UInt8) (hn : (10 : UInt8) ∉ note) (ht : t = textT note (cuts 10 [] s.data.toList)) :
    cutB 10 (mkB t) = (cutB 10 s).flatMap (twoB note) ∧ (0 < (modM s).fault → (modM (mkB t)).fault = 2 * (modM s).fault) ∧ ((modM s).fault = 0 → modM (mkB t) = modM s) := by
  have hc : cutB 10 (mkB t) = (cutB 10 s).flatMap (twoB note) := by
    unfold cutB
    rw [mkB_toList, ht, cuts_textT note hn _ (cuts_ne _ _ _) (cuts_free _ _ _ (by simp)), List.map_flatMap, List.flatMap_map]
    rfl
  refine ⟨hc, ?_⟩
  unfold modM
  rw [hc]
  exact mod_two note _
end Go.Proofs.YtkmachhfibcdlaaDoor
