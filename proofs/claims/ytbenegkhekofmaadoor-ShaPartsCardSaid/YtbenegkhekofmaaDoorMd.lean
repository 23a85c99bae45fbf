/- Plain lemmas: a text's digest, block by block; the padded text gives the same. -/
import Derived.Test.YtbenegkhekofmaaDoorWj
namespace Go.Proofs.YtbenegkhekofmaaDoor
open Go.RowKit

theorem pw_congr {B B' : List Nat} (h : ∀ j, j < 64 → B.getD j 0 = B'.getD j 0) (i : Nat) (hi : i < 16) : ∀ k, k ≤ 4 → pw B i k = pw B' i k
  | 0, _ => rfl
  | k + 1, hk => by rw [pw, pw, pw_congr h i hi k (by omega), h _ (by omega)]
theorem wordsL_congr {B B' : List Nat} (h : ∀ j, j < 64 → B.getD j 0 = B'.getD j 0) : wordsL B = wordsL B' := by
  have : pre B 16 = pre B' 16 := List.map_congr_left fun i hi => pw_congr h i (by simpa using hi) 4 (Nat.le_refl _)
  rw [wordsL, wordsL, this]
theorem St.block_congr (S : St) {B B' : List Nat} (h : ∀ j, j < 64 → B.getD j 0 = B'.getD j 0) : S.block B = S.block B' := by
  rw [blk_eq, blk_eq, wordsL_congr h]

/-- The block number i of a list. -/
def slab (l : List Nat) (i : Nat) : List Nat := (l.drop (64 * i)).take 64
theorem slab_get (l : List Nat) (i j : Nat) (h : j < 64) : (slab l i).getD j 0 = l.getD (64 * i + j) 0 := by
  simp only [slab, List.getD_eq_getElem?_getD]
  rw [List.getElem?_take_of_lt h, List.getElem?_drop]
def St.run (S : St) (l : List Nat) : Nat → St
  | 0 => S
  | k + 1 => (St.run S l k).block (slab l k)
theorem St.run_succ (S : St) (l : List Nat) (k : Nat) : S.run l (k + 1) = (S.run l k).block (slab l k) := rfl
theorem St.run_ok {S : St} (h : S.ok) (l : List Nat) : ∀ k, (S.run l k).ok
  | 0 => h
  | _ + 1 => St.block_ok _ _
theorem St.run_congr (S : St) {l l' : List Nat} : ∀ k, (∀ j, j < 64 * k → l.getD j 0 = l'.getD j 0) → S.run l k = S.run l' k
  | 0, _ => rfl
  | k + 1, h => by
    rw [St.run_succ, St.run_succ, St.run_congr S k fun j hj => h j (by omega)]
    exact St.block_congr _ fun j hj => by rw [slab_get _ _ _ hj, slab_get _ _ _ hj, h _ (by omega)]
def H0 : St := ⟨1779033703, 3144134277, 1013904242, 2773480762, 1359893119, 2600822924, 528734635, 1541459225⟩
theorem H0_ok : H0.ok := by unfold St.ok H0; decide
/-- The state behind a text. -/
def shaS (l : List Nat) : St := (H0.run l (l.length / 64)).last (l.drop (64 * (l.length / 64))) (l.length * 8)
def shaL (l : List Nat) : List Nat := digL (shaS l).list
theorem shaL_len (l : List Nat) : (shaL l).length = 32 := by rw [shaL, digL, dpre_len]
theorem shaL_small (l : List Nat) : Small 256 (shaL l) := range_small (by decide) fun _ _ => Nat.mod_lt _ (by decide)

/-- How many noughts stand behind a text. -/
def padN (n : Nat) : Nat := (119 - n % 64) % 64
def tailL (n : Nat) : List Nat := (List.range 8).map (cb (n * 8))
def pad (l : List Nat) : List Nat := l ++ [128] ++ List.replicate (padN l.length) 0 ++ tailL l.length
theorem pad_len (l : List Nat) : (pad l).length = l.length + 1 + padN l.length + 8 := by simp [pad, tailL]; omega
theorem getD_app (a b : List Nat) (j : Nat) : (a ++ b).getD j 0 = if j < a.length then a.getD j 0 else b.getD (j - a.length) 0 := by
  simp only [List.getD_eq_getElem?_getD]
  by_cases e : j < a.length
  · rw [if_pos e, List.getElem?_append_left e]
  · rw [if_neg e, List.getElem?_append_right (by omega)]
theorem getD_rep (n j : Nat) : (List.replicate n 0).getD j 0 = 0 := by
  rw [List.getD_eq_getElem?_getD, List.getElem?_replicate]; split <;> rfl
theorem getD_one (v j : Nat) : [v].getD j 0 = if j = 0 then v else 0 := by
  cases j with
  | zero => rfl
  | succ j => simp
theorem getD_out (l : List Nat) (j : Nat) (h : l.length ≤ j) : l.getD j 0 = 0 := by
  rw [List.getD_eq_getElem?_getD, List.getElem?_eq_none h]; rfl
theorem pad_get (l : List Nat) (j : Nat) (h : j < (pad l).length) : (pad l).getD j 0 = if j < l.length then l.getD j 0 else if j = l.length then 128 else if j < l.length + 1 + padN l.length then 0 else cb (l.length * 8) (j - (l.length + 1 + padN l.length)) := by
  rw [pad_len] at h
  have h1 : (l ++ [128]).length = l.length + 1 := by simp
  have h2 : (l ++ [128] ++ List.replicate (padN l.length) 0).length = l.length + 1 + padN l.length := by rw [List.length_append, h1, List.length_replicate]
  rw [pad, getD_app, h2]
  by_cases a : j < l.length + 1 + padN l.length
  · rw [if_pos a, getD_app, h1]
    by_cases b : j < l.length + 1
    · rw [if_pos b, getD_app]
      by_cases c : j < l.length
      · rw [if_pos c, if_pos c]
      · rw [if_neg c, if_neg c, getD_one, if_pos (by omega), if_pos (by omega)]
    · rw [if_neg b, getD_rep, if_neg (by omega), if_neg (by omega), if_pos a]
  · rw [if_neg a, tailL, getD_range _ 8 _ (by omega), if_neg (by omega), if_neg (by omega), if_neg a]
theorem rest_get (l : List Nat) (q j : Nat) : (l.drop (64 * q)).getD j 0 = l.getD (64 * q + j) 0 := by
  simp only [List.getD_eq_getElem?_getD, List.getElem?_drop]

/-- The padded text's blocks lead to the text's state. -/
theorem pad_run (l : List Nat) : H0.run (pad l) ((pad l).length / 64) = shaS l := by
  have hpl := pad_len l
  have hpg := pad_get l
  obtain ⟨n, hn⟩ : ∃ n, l.length = n := ⟨_, rfl⟩
  rw [hn] at hpl hpg
  have hq : 64 * (n / 64) + n % 64 = n := by omega
  have hrl : (l.drop (64 * (n / 64))).length = n % 64 := by rw [List.length_drop, hn]; omega
  have hrun : H0.run (pad l) (n / 64) = H0.run l (n / 64) := St.run_congr _ _ fun j hj => by rw [hpg j (by omega), if_pos (by omega)]
  have hrg := rest_get l (n / 64)
  unfold shaS
  rw [hn]
  obtain ⟨rest, hrest⟩ : ∃ rest, l.drop (64 * (n / 64)) = rest := ⟨_, rfl⟩
  rw [hrest] at hrl hrg ⊢
  have hol : (rest ++ [128]).length = n % 64 + 1 := by simp [hrl]
  by_cases hr : n % 64 < 56
  · have hz : padN n = 55 - n % 64 := by unfold padN; omega
    rw [hz] at hpl hpg
    have e : (pad l).length / 64 = n / 64 + 1 := by omega
    rw [e, St.run_succ, hrun, St.last_lo _ _ _ (by omega)]
    refine St.block_congr _ fun j hj => ?_
    rw [slab_get _ _ _ hj, hpg _ (by omega), fin, getD_range _ 64 j hj]
    by_cases c1 : j < n % 64
    · rw [if_pos (by omega), if_pos (by omega), over_get _ _ _ hj, hol, if_pos (by omega), getD_app, hrl, if_pos c1, hrg]
    · rw [if_neg (by omega)]
      by_cases c2 : j = n % 64
      · rw [if_pos (by omega), if_pos (by omega), over_get _ _ _ hj, hol, if_pos (by omega), getD_app, hrl, if_neg c1, getD_one, if_pos (by omega)]
      · rw [if_neg (by omega)]
        by_cases c3 : j < 56
        · rw [if_pos (by omega), if_pos c3, over_get _ _ _ hj, hol, if_neg (by omega)]; rfl
        · rw [if_neg (by omega), if_neg c3, show 64 * (n / 64) + j - (n + 1 + (55 - n % 64)) = j - 56 by omega]
  · have hz : padN n = 119 - n % 64 := by unfold padN; omega
    rw [hz] at hpl hpg
    have e : (pad l).length / 64 = n / 64 + 1 + 1 := by omega
    rw [e, St.run_succ, St.run_succ, hrun, St.last_hi _ _ _ (by omega)]
    have e1 : (H0.run l (n / 64)).block (slab (pad l) (n / 64)) = (H0.run l (n / 64)).block (over (rest ++ [128]) []) := by
      refine St.block_congr _ fun j hj => ?_
      rw [slab_get _ _ _ hj, hpg _ (by omega), over_get _ _ _ hj, hol]
      by_cases c1 : j < n % 64
      · rw [if_pos (by omega), if_pos (by omega), getD_app, hrl, if_pos c1, hrg]
      · rw [if_neg (by omega)]
        by_cases c2 : j = n % 64
        · rw [if_pos (by omega), if_pos (by omega), getD_app, hrl, if_neg c1, getD_one, if_pos (by omega)]
        · rw [if_neg (by omega), if_pos (by omega), if_neg (by omega)]; rfl
    rw [e1]
    refine St.block_congr _ fun j hj => ?_
    rw [slab_get _ _ _ hj, hpg _ (by omega), fin, getD_range _ 64 j hj, if_neg (by omega), if_neg (by omega)]
    by_cases c3 : j < 56
    · rw [if_pos (by omega), if_pos c3]; rfl
    · rw [if_neg (by omega), if_neg c3, show 64 * (n / 64 + 1) + j - (n + 1 + (119 - n % 64)) = j - 56 by omega]
end Go.Proofs.YtbenegkhekofmaaDoor
