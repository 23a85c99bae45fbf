/- A Put while the power is on; what the document tells first. -/
import Derived.Test.YtbdlmdmbaajcmaaZj
namespace Go.Proofs.Ytbdlmdmbaajcmaa
set_option linter.unusedVariables false
set_option linter.unusedSimpArgs false
open Go.ChangeShapes Go.WideShapes Go.ChangeAt Go.RowKit

theorem split_put (k v : ByteArray) (hk : k.size ≤ 1073741824) (hv : v.size ≤ 1073741824) : C.splitB (putB (k, v)) = some [wPut, k, v] := by
  refine C.split_join _ (by simp) (fun p hp => ?_)
  simp only [List.mem_cons, List.not_mem_nil, or_false] at hp
  have : wPut.size = 3 := rfl
  rcases hp with rfl | rfl | rfl <;> omega
theorem split_gone (k : ByteArray) (hk : k.size ≤ 1073741824) : C.splitB (goneB k) = some [wGone, k] := by
  refine C.split_join _ (by simp) (fun p hp => ?_)
  simp only [List.mem_cons, List.not_mem_nil, or_false] at hp
  have : wGone.size = 4 := rfl
  rcases hp with rfl | rfl <;> omega
theorem doC_put (L : List En) (k v : ByteArray) (hk : k.size ≤ 1073741824) (hv : v.size ≤ 1073741824) : doC L (putB (k, v)) = some (dropL L k ++ [(k, v)]) := by
  unfold doC
  rw [split_put k v hk hv]
  show doP L [wPut, k, v] = _
  unfold doP
  rw [if_pos ⟨rfl, rfl⟩]
  rfl
theorem wGone_ne : wGone ≠ wPut := by
  intro e
  have := congrArg ByteArray.size e
  simp [ByteArray.size] at this
theorem doC_gone (L : List En) (k : ByteArray) (hk : k.size ≤ 1073741824) : doC L (goneB k) = some (dropL L k) := by
  unfold doC
  rw [split_gone k hk]
  show doP L [wGone, k] = _
  unfold doP
  rw [if_neg (fun h => by simp at h), if_pos ⟨rfl, rfl⟩]
  rfl
theorem doG_put (L : List En) (k v : ByteArray) (hk : k.size ≤ 1073741824) (hv : v.size ≤ 1073741824) : doG L (putB (k, v)) = dropL L k ++ [(k, v)] := by unfold doG; rw [doC_put L k v hk hv]; rfl
theorem doG_gone (L : List En) (k : ByteArray) (hk : k.size ≤ 1073741824) : doG L (goneB k) = dropL L k := by unfold doG; rw [doC_gone L k hk]; rfl
theorem drop_head (e : En) (L : List En) : dropL (e :: L) e.1 = L := by
  unfold dropL
  rw [whereL_some (L := e :: L) (k := e.1) (i := 0) (by simp) rfl (fun j hj h0 => absurd h0 (Nat.not_lt_zero _))]
  rfl
theorem doAll_gone : ∀ (n : Nat) (L : List En), (∀ e ∈ L, e.1.size ≤ 1073741824) → doAll L ((L.take n).map (fun e => goneB e.1)) = L.drop n
  | 0, L, _ => by simp [doAll]
  | n + 1, [], _ => by simp [doAll]
  | n + 1, e :: L, h => by
    show doAll (doG (e :: L) (goneB e.1)) ((L.take n).map (fun e => goneB e.1)) = L.drop n
    rw [doG_gone _ _ (h e List.mem_cons_self), drop_head]
    exact doAll_gone n L (fun x hx => h x (List.mem_cons_of_mem _ hx))
/-- The entries behind a Put. -/
def putL (L : List En) (m : Int) (k v : ByteArray) : List En := dropL (match whereL L k with | some _ => L | none => L.drop ((L.length : Int) + 1 - m).toNat) k ++ [(k, v)]
theorem doAll_put (L : List En) (m : Int) (k v : ByteArray) (hk : k.size ≤ 1073741824) (hv : v.size ≤ 1073741824) (hL : ∀ e ∈ L, e.1.size ≤ 1073741824) : doAll L (putRs L m k v) = putL L m k v := by
  unfold putRs putL
  cases hw : whereL L k with
  | some i =>
    show doG L (putB (k, v)) = _
    rw [doG_put L k v hk hv]
  | none =>
    dsimp only
    unfold doAll
    rw [List.foldl_append]
    show doG (doAll L _) (putB (k, v)) = _
    rw [doAll_gone _ _ hL, doG_put _ k v hk hv]
theorem total_app : ∀ (a b : List ByteArray), G.total (a ++ b) = G.total a + G.total b := G.total_append
theorem total_gone : ∀ (L : List En) (N : Nat), (∀ e ∈ L, e.1.size ≤ N) → G.total (L.map (fun e => goneB e.1)) ≤ L.length * (28 + N)
  | [], N, _ => by simp [G.total]
  | e :: L, N, h => by
    have h1 := total_gone L N (fun x hx => h x (List.mem_cons_of_mem _ hx))
    have h2 := h e List.mem_cons_self
    show (goneB e.1).size + G.total (L.map _) ≤ _
    rw [goneB_size, List.length_cons, Nat.add_mul]
    omega
/-- How much a Put's records have. -/
theorem putRs_size (L : List En) (m : Int) (k v : ByteArray) (N : Nat) (hL : ∀ e ∈ L, e.1.size ≤ N) (hm : (L.length : Int) ≤ m) :
    G.total (putRs L m k v) + 8 * (putRs L m k v).length ≤ 36 + N + 43 + k.size + v.size ∧ (putRs L m k v).length ≤ 2 := by
  unfold putRs
  rw [total_app, List.length_append]
  have hp : G.total [putB (k, v)] = 35 + k.size + v.size := by simp [G.total, putB_size]
  rw [hp, List.length_singleton]
  cases whereL L k with
  | some i => simp [G.total]; omega
  | none =>
    dsimp only
    have h1 := total_gone (L.take ((L.length : Int) + 1 - m).toNat) N (fun e he => hL e (List.mem_of_mem_take he))
    have h2 : (L.take ((L.length : Int) + 1 - m).toNat).length ≤ 1 := by rw [List.length_take]; omega
    rw [List.length_map]
    generalize (L.take ((L.length : Int) + 1 - m).toNat) = X at *
    have h3 : X.length * (28 + N) ≤ 1 * (28 + N) := Nat.mul_le_mul_right _ h2
    omega
/-- The power is on, and no fuse is laid. -/
structure Lit_ (r : Int) (h : Hd) : Prop where
  room : h.room = r
  down : h.down = false
  left : h.left = 0
theorem ready_lit {r : Int} {h : Hd} (k : Lit_ r h) {x : ByteArray} (hx : goodN x = true) : readyE h x = 0 := by
  unfold readyE
  rw [if_neg (by rw [k.down]; simp), if_pos hx]
theorem step_lit {r : Int} {h : Hd} (k : Lit_ r h) (A A1 : List Ab) (stays : Int) : stepA h A A1 0 stays = (0, ⟨h.room, h.acts + 1, false, 0, h.keep, h.torn⟩, A1) := by
  rw [step_ok rfl (by rw [k.left]; decide), k.left]
  rfl
theorem log_lit {r : Int} {h : Hd} (k : Lit_ r h) {A : List Ab} {nm : ByteArray} (hx : goodN nm = true) {cc : List UInt8} (hr : (totA A : Int) + (cc.length : Int) ≤ r) : logR h A nm cc = (0, ⟨h.room, h.acts + 1, false, 0, h.keep, h.torn⟩, apdA A nm cc) := by
  have he : logE h A nm cc = 0 := by
    unfold logE
    rw [if_neg (by rw [ready_lit k hx]; simp), if_neg (by rw [k.room]; omega)]
  unfold logR
  rw [he, step_lit k]
theorem lit_next {r : Int} {h : Hd} (k : Lit_ r h) : Lit_ r ⟨h.room, h.acts + 1, false, 0, h.keep, h.torn⟩ := ⟨k.room, rfl, rfl⟩
theorem find_none {r : Int} {h : Hd} (k : Lit_ r h) {x : ByteArray} (hx : goodN x = true) : findA h [] x = 5 := by
  unfold findA
  rw [if_neg (by rw [ready_lit k hx]; simp), if_neg (by simp [lookA])]
theorem open_fresh {r : Int} {h : Hd} (k : Lit_ r h) {nm : ByteArray} (h1 : goodN nm = true) (h2 : goodN (nm ++ wNew) = true) : openOut h [] nm = (0, h, [], []) := by
  unfold openOut
  rw [find_none k h2, step_pre (by decide)]
  unfold openA
  rw [if_neg (by simp)]
  have : mendOut h [] nm = (0, h, [], []) := by
    unfold mendOut
    rw [find_none k h1, if_neg (by decide), if_pos rfl]
  rw [this]
  unfold openB
  rw [if_neg (by simp)]
  rfl
theorem apd_len (A : List Ab) (x : ByteArray) (c : List UInt8) : (apdA A x c).length ≤ A.length + 1 := by
  unfold apdA
  exact len_upd
/-- A Put while the power is on, and there is room. -/
theorem put_lit {r : Int} {h : Hd} (kl : Lit_ r h) {A : List Ab} {nm : ByteArray} (hx : goodN nm = true) {L : List En} {m : Int} {k v : ByteArray} {N n : Nat} (nd : (A.map (·.1)).Nodup) (hL : ∀ e ∈ L, e.1.size ≤ N) (hN : N ≤ 16384) (hm : (L.length : Int) ≤ m) (hk : k.size + v.size ≤ 65000) (ok : DvOk n h A) (hroom : (totA A : Int) + ((79 + N + k.size + v.size : Nat) : Int) ≤ r) (hr : r ≤ 1048576) :
    ∃ h2 A2, putOut h A nm m L k v = ((0, h2, A2), if getL L k = (v, true) then L else putL L m k v) ∧ Lit_ r h2 ∧ DvOk (n + 1) h2 A2 ∧ totA A2 ≤ totA A + (79 + N + k.size + v.size) := by
  unfold putOut
  rw [if_neg (by rw [putB_size]; show ¬ 65536 < 35 + k.size + v.size; omega)]
  by_cases hg : getL L k = (v, true)
  · rw [if_pos hg, if_pos hg]
    exact ⟨h, A, rfl, kl, ok.more (by omega), by omega⟩
  · rw [if_neg hg, if_neg hg]
    obtain ⟨hz, hln⟩ := putRs_size L m k v N hL hm
    have hrl := G.recsL_le (putRs L m k v)
    rw [log_lit kl hx (by omega), doAll_put L m k v (by omega) (by omega) (fun e he => by have := hL e he; omega)]
    have ht := tot_apd (x := nm) (c := G.recsL (putRs L m k v)) nd
    refine ⟨_, _, rfl, lit_next kl, ?_, by omega⟩
    exact ⟨ok.room, by show (0 : Int) ≤ 0 ∧ (0 : Int) ≤ _; omega, by show (0 : Int) ≤ h.acts + 1 ∧ h.acts + 1 ≤ ((n + 1 : Nat) : Int); have := ok.acts; omega, by omega, Nat.le_trans (apd_len _ _ _) (by have := ok.l; omega)⟩
def kN : ByteArray := ⟨#[107]⟩
theorem kN_good : goodN kN = true := by decide
theorem kN_new : goodN (kN ++ wNew) = true := by
  unfold goodN
  rw [ByteArray.size_append]
  decide
theorem new_lit (room : Int) (h1 : 0 ≤ room) (h2 : room ≤ 1048576) : Lit_ room (newH room) := ⟨by show min (max room 0) 1048576 = room; omega, rfl, rfl⟩
theorem new_ok (room : Int) (h1 : 0 ≤ room) (h2 : room ≤ 1048576) : DvOk 0 (newH room) [] := ⟨by show 0 ≤ min (max room 0) 1048576 ∧ min (max room 0) 1048576 ≤ 1048576; omega, by show (0 : Int) ≤ 0 ∧ (0 : Int) ≤ _; omega, by show (0 : Int) ≤ 0 ∧ (0 : Int) ≤ _; omega, by simp [totA], by simp⟩
/-- A device that is new, and a store on it. -/
theorem open_new {TD : Nat → Prop} {d : Nat} {room : Int} {w : World} (h1 : 0 ≤ room) (h2 : room ≤ 1048576) (dv : DV TD d (newH room) [] w) (ld : ∀ k, TD k → k < w.heap.size) (m : Int) (hm : 1 ≤ m ∧ m ≤ 4096) :
    Calls Try.prog 12 #[.pointer (some ⟨d, 0, none⟩), .string kN, .int .i64 m] w fun e w' => ∃ b TD' TS', e = .returned (.tuple #[.pointer (some ⟨b, 0, none⟩), .int .i64 0]) ∧ Kv TD' TS' b d kN m (newH room) [] [] w' ∧ (∀ k, TD' k → Gr TD w w' k) ∧ (∀ k, TS' k → w.heap.size ≤ k) ∧ Kept TD w w' := by
  refine (open_any dv ld (new_ok room h1 h2) (by omega) kN m (by decide) (by decide) hm).mono ?_
  intro e w' h
  rw [open_fresh (new_lit room h1 h2) kN_good kN_new] at h
  rcases h with ⟨_, h⟩ | ⟨h, _⟩
  · exact h
  · exact absurd rfl h
end Go.Proofs.Ytbdlmdmbaajcmaa
