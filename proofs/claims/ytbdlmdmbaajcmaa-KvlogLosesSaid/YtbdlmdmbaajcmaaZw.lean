/- One store alone on a device of which the power is on. -/
import Derived.Test.YtbdlmdmbaajcmaaZv
namespace Go.Proofs.Ytbdlmdmbaajcmaa
set_option linter.unusedVariables false
set_option linter.unusedSimpArgs false
open Go.ChangeShapes Go.WideShapes Go.ChangeAt Go.RowKit

theorem doSome_app : ∀ (R1 R2 : List ByteArray) (L : List En), doSome L (R1 ++ R2) = (doSome L R1).bind (fun L2 => doSome L2 R2)
  | [], R2, L => rfl
  | r :: R, R2, L => by
    show (match doC L r with | some L2 => doSome L2 (R ++ R2) | none => none) = (match doC L r with | some L2 => doSome L2 R | none => none).bind _
    cases doC L r with
    | none => rfl
    | some L2 => exact doSome_app R R2 L2
theorem doSome_all : ∀ (R : List ByteArray) (L : List En), (∀ r ∈ R, ∀ L, (doC L r).isSome = true) → doSome L R = some (doAll L R)
  | [], L, _ => rfl
  | r :: R, L, h => by
    obtain ⟨L2, h2⟩ := Option.isSome_iff_exists.1 (h r List.mem_cons_self L)
    show (match doC L r with | some L2 => doSome L2 R | none => none) = some (doAll (doG L r) R)
    have hg : doG L r = L2 := by unfold doG; rw [h2]; rfl
    rw [h2, hg]
    exact doSome_all R L2 (fun x hx => h x (List.mem_cons_of_mem _ hx))
theorem known_put (k v : ByteArray) (hk : k.size ≤ 1073741824) (hv : v.size ≤ 1073741824) (L : List En) : (doC L (putB (k, v))).isSome = true := by rw [doC_put L k v hk hv]; rfl
theorem known_gone (k : ByteArray) (hk : k.size ≤ 1073741824) (L : List En) : (doC L (goneB k)).isSome = true := by rw [doC_gone L k hk]; rfl
theorem dropL_no : ∀ (L : List En) (k : ByteArray), k ∉ L.map (·.1) → dropL L k = L
  | [], k, _ => rfl
  | e :: L, k, h => by
    rw [dropL_cons, if_neg (fun e' => h (by rw [List.map_cons, e']; exact List.mem_cons_self)), dropL_no L k (fun h' => h (List.mem_cons_of_mem _ h'))]
theorem doSome_puts : ∀ (L P : List En), ((P ++ L).map (·.1)).Nodup → (∀ e ∈ L, e.1.size ≤ 1048576 ∧ e.2.size ≤ 1048576) → doSome P (L.map putB) = some (P ++ L)
  | [], P, _, _ => by rw [List.append_nil]; rfl
  | e :: L, P, h, hz => by
    have he := hz e List.mem_cons_self
    have hn : e.1 ∉ P.map (·.1) := fun hp => by
      rw [List.map_append, List.nodup_append] at h
      exact h.2.2 e.1 hp e.1 (by simp) rfl
    show (match doC P (putB (e.1, e.2)) with | some L2 => doSome L2 (L.map putB) | none => none) = _
    rw [doC_put P e.1 e.2 (by omega) (by omega), dropL_no P e.1 hn]
    dsimp only
    rw [doSome_puts L (P ++ [e]) (by rw [List.append_assoc]; exact h) (fun x hx => hz x (List.mem_cons_of_mem _ hx)), List.append_assoc]
    rfl
/-- What a device holds on which one store is: its file, or none. -/
def One (A : List Ab) (nm : ByteArray) (L : List En) (z : Nat) : Prop :=
  (A = [] ∧ L = [] ∧ z = 0) ∨ ∃ H s, A = [(nm, G.recsL H, s)] ∧ (∀ r ∈ H, r.size ≤ 65536) ∧ doSome [] H = some L ∧ z = (G.recsL H).length
theorem One.tot {A : List Ab} {nm : ByteArray} {L : List En} {z : Nat} (o : One A nm L z) : totA A = z := by
  rcases o with ⟨rfl, _, rfl⟩ | ⟨H, s, rfl, _, _, rfl⟩
  · rfl
  · simp [totA]
theorem One.nd {A : List Ab} {nm : ByteArray} {L : List En} {z : Nat} (o : One A nm L z) : (A.map (·.1)).Nodup := by
  rcases o with ⟨rfl, _, rfl⟩ | ⟨H, s, rfl, _, _, rfl⟩ <;> simp
theorem One.apd {A : List Ab} {nm : ByteArray} {L L2 : List En} {z : Nat} (o : One A nm L z) (R : List ByteArray) (hR : ∀ r ∈ R, r.size ≤ 65536) (hs : doSome L R = some L2) : One (apdA A nm (G.recsL R)) nm L2 (z + (G.recsL R).length) := by
  rcases o with ⟨rfl, rfl, rfl⟩ | ⟨H, s, rfl, h1, h2, rfl⟩
  · exact .inr ⟨R, 0, by simp [apdA, lookA, updA], hR, hs, by omega⟩
  · refine .inr ⟨H ++ R, s, by simp [apdA, lookA, updA, G.recsL_append], fun r hr => ?_, by rw [doSome_app, h2]; exact hs, by rw [G.recsL_append, List.length_append]⟩
    rcases List.mem_append.1 hr with hr | hr
    · exact h1 r hr
    · exact hR r hr
theorem ready_ne {x : ByteArray} (nm : ByteArray) (h : x = nm ++ wNew) : nm ≠ x := fun e => by
  have := congrArg ByteArray.size (e.trans h)
  rw [ByteArray.size_append] at this
  have : wNew.size = 4 := rfl
  omega
theorem find_look {r : Int} {h : Hd} (k : Lit_ r h) {A : List Ab} {x : ByteArray} (hx : goodN x = true) : findA h A x = if (lookA A x).isSome = true then 0 else 5 := by
  unfold findA
  rw [if_neg (by rw [ready_lit k hx]; simp)]
theorem logE_lit {r : Int} {h : Hd} (k : Lit_ r h) {A : List Ab} {nm : ByteArray} (hx : goodN nm = true) (cc : List UInt8) : logE h A nm cc = if r - (totA A : Int) < (cc.length : Int) then 6 else 0 := by
  unfold logE
  rw [if_neg (by rw [ready_lit k hx]; simp), k.room]
/-- The log's answer. -/
theorem logR_full {r : Int} {h : Hd} (k : Lit_ r h) {A : List Ab} {nm : ByteArray} (hx : goodN nm = true) {cc : List UInt8} (hr : r - (totA A : Int) < (cc.length : Int)) : logR h A nm cc = (6, h, A) := by
  unfold logR
  rw [logE_lit k hx, if_pos hr, step_pre (by decide)]
theorem One.open {r : Int} {h : Hd} (k : Lit_ r h) {A : List Ab} {nm : ByteArray} (h1 : goodN nm = true) (h2 : goodN (nm ++ wNew) = true) {L : List En} {z : Nat} (o : One A nm L z) : openOut h A nm = (0, h, A, L) := by
  have hne := ready_ne nm rfl
  have hl : lookA A (nm ++ wNew) = none := by
    rcases o with ⟨rfl, _, _⟩ | ⟨H, s, rfl, _, _, _⟩
    · rfl
    · simp [lookA, hne]
  unfold openOut
  rw [find_look k h2, hl, if_neg (by simp), step_pre (by decide)]
  unfold openA
  rw [if_neg (by simp)]
  unfold mendOut
  rw [find_look k h1]
  rcases o with ⟨rfl, rfl, _⟩ | ⟨H, s, rfl, q1, q2, _⟩
  · rw [if_neg (by simp [lookA])]
    simp [lookA, openB, doSome]
  · have hla : lookA [(nm, G.recsL H, s)] nm = some (nm, G.recsL H, s) := by simp [lookA]
    dsimp only
    rw [hla, if_pos (by simp)]
    dsimp only
    rw [G.split_put H q1, if_neg (by simp)]
    unfold openB
    rw [if_neg (by simp)]
    dsimp only
    rw [q2]
theorem One.sync {r : Int} {h : Hd} (k : Lit_ r h) {A : List Ab} {nm : ByteArray} (h1 : goodN nm = true) {L : List En} {z : Nat} (o : One A nm L z) : ∃ h2 A2, syncOut h A nm = (0, h2, A2) ∧ Lit_ r h2 ∧ One A2 nm L z ∧ h.acts ≤ h2.acts ∧ h2.acts ≤ h.acts + 3 := by
  unfold syncOut syncR
  rw [find_look k h1]
  rcases o with ⟨rfl, rfl, rfl⟩ | ⟨H, s, rfl, q1, q2, q3⟩
  · rw [if_neg (by simp [lookA]), step_pre (by decide)]
    exact ⟨h, [], rfl, k, .inl ⟨rfl, rfl, rfl⟩, by omega, by omega⟩
  · have hla : lookA [(nm, G.recsL H, s)] nm = some (nm, G.recsL H, s) := by simp [lookA]
    rw [hla, if_pos (by simp), step_lit k]
    refine ⟨_, _, rfl, lit_next k, .inr ⟨H, (G.recsL H).length, ?_, q1, q2, q3⟩, by show h.acts ≤ h.acts + 1; omega, by show h.acts + 1 ≤ h.acts + 3; omega⟩
    simp [synA, lookA, updA]
theorem One.comp {r : Int} {h : Hd} (k : Lit_ r h) {A : List Ab} {nm : ByteArray} (h1 : goodN nm = true) (h2 : goodN (nm ++ wNew) = true) {L : List En} {z : Nat} (o : One A nm L z) (nd : (L.map (·.1)).Nodup) (hz : ∀ e ∈ L, e.1.size ≤ 8192 ∧ e.2.size ≤ 8192) :
    (r - (z : Int) < ((bytesN (L.map putB) : Nat) : Int) ∧ compOut h A nm L = (6, h, A)) ∨
    (¬ r - (z : Int) < ((bytesN (L.map putB) : Nat) : Int) ∧ ∃ h3 A3, compOut h A nm L = (0, h3, A3) ∧ Lit_ r h3 ∧ One A3 nm L (bytesN (L.map putB)) ∧ h3.acts = h.acts + 3) := by
  have hne := ready_ne nm rfl
  have hsz : ∀ p ∈ L.map putB, p.size ≤ 65536 := fun p hp => by
    obtain ⟨e, he, rfl⟩ := List.mem_map.1 hp
    rw [putB_size]
    have := hz e he
    omega
  have hb := bytesN_recs (L.map putB) hsz
  have ht := o.tot
  have hdo : doSome [] (L.map putB) = some L := by
    have := doSome_puts L [] (by simpa using nd) (fun e he => by have := hz e he; omega)
    simpa using this
  by_cases hf : r - (z : Int) < ((bytesN (L.map putB) : Nat) : Int)
  · refine .inl ⟨hf, ?_⟩
    unfold compOut
    rw [logR_full k h2 (by rw [ht, hb]; exact hf)]
    unfold compB
    rw [if_pos (by simp)]
  · refine .inr ⟨hf, ?_⟩
    unfold compOut
    rw [log_lit k h2 (by rw [ht, hb]; omega)]
    have k1 := lit_next k
    have a1 : (⟨h.room, h.acts + 1, false, 0, h.keep, h.torn⟩ : Hd).acts = h.acts + 1 := rfl
    generalize (⟨h.room, h.acts + 1, false, 0, h.keep, h.torn⟩ : Hd) = hh1 at *
    unfold compB
    rw [if_neg (by simp)]
    dsimp only
    unfold syncR
    have hl1 : (lookA (apdA A (nm ++ wNew) (G.recsL (L.map putB))) (nm ++ wNew)).isSome = true := by
      rcases o with ⟨rfl, _, _⟩ | ⟨H, s, rfl, _, _, _⟩ <;> simp [apdA, lookA, updA, hne]
    rw [find_look k1 h2, if_pos hl1, step_lit k1]
    have k2 := lit_next k1
    have a2 : (⟨hh1.room, hh1.acts + 1, false, 0, hh1.keep, hh1.torn⟩ : Hd).acts = hh1.acts + 1 := rfl
    generalize (⟨hh1.room, hh1.acts + 1, false, 0, hh1.keep, hh1.torn⟩ : Hd) = hh2 at *
    unfold compC
    rw [if_neg (by simp)]
    dsimp only
    unfold renR
    have hl2 : (lookA (synA (apdA A (nm ++ wNew) (G.recsL (L.map putB))) (nm ++ wNew)) (nm ++ wNew)).isSome = true := by
      rcases o with ⟨rfl, _, _⟩ | ⟨H, s, rfl, _, _, _⟩ <;> simp [apdA, synA, lookA, updA, hne]
    rw [find_look k2 h2, if_pos hl2, if_neg (by simp), if_pos h1, step_lit k2]
    refine ⟨_, _, rfl, lit_next k2, .inr ⟨L.map putB, (G.recsL (L.map putB)).length, ?_, hsz, hdo, by rw [hb]⟩, by show hh2.acts + 1 = h.acts + 3; omega⟩
    rcases o with ⟨rfl, _, _⟩ | ⟨H, s, rfl, _, _, _⟩ <;> simp [apdA, synA, renA, drpA, lookA, updA, hne, Ne.symm hne]
end Go.Proofs.Ytbdlmdmbaajcmaa
