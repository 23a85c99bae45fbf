/- A store while the power is on; what the document tells first; the statement KvlogOrders. -/
import Derived.Test.YtbdlmdmbaajcmaaZk
namespace Go.Proofs.Ytbdlmdmbaajcmaa
set_option linter.unusedVariables false
set_option linter.unusedSimpArgs false
open Go.ChangeShapes Go.WideShapes Go.ChangeAt Go.RowKit

/-- A store on a device of which the power is on: all of it lies from B on. -/
structure Sta (B : Nat) (r : Int) (b d : Nat) (m : Int) (L : List En) (n T : Nat) (w : World) : Prop where
  s : ∃ TD TS h A, Kv TD TS b d kN m h A L w ∧ Lit_ r h ∧ DvOk n h A ∧ totA A ≤ T ∧ (∀ k, TD k → B ≤ k) ∧ (∀ k, TS k → B ≤ k)
theorem Sta.below {B : Nat} {r : Int} {b d : Nat} {m : Int} {L : List En} {n T : Nat} {w w' : World} (k : Sta B r b d m L n T w) (hB : Below w.heap.size w w') : Sta B r b d m L n T w' := by
  obtain ⟨TD, TS, h, A, k1, k2⟩ := k.s
  exact ⟨TD, TS, h, A, k1.below hB, k2⟩
theorem put_sta {B : Nat} {r : Int} {b d : Nat} {m : Int} {L : List En} {n T : Nat} {w : World} (st : Sta B r b d m L n T w) (hB : B ≤ w.heap.size) (N : Nat) (k v : ByteArray) (hL : ∀ e ∈ L, e.1.size ≤ N) (hN : N ≤ 16384) (hm : 1 ≤ m ∧ m ≤ 4096) (hLm : (L.length : Int) ≤ m) (hk : k.size + v.size ≤ 65000) (hn : n ≤ 1000) (hr : r ≤ 1048576) (hroom : ((T + (79 + N + k.size + v.size) : Nat) : Int) ≤ r) :
    Calls Try.prog 18 #[.pointer (some ⟨b, 0, none⟩), .string k, .string v] w fun e w' => e = .returned (.int .i64 0) ∧ Sta B r b d m (if getL L k = (v, true) then L else putL L m k v) (n + 1) (T + (79 + N + k.size + v.size)) w' ∧ Below B w w' := by
  obtain ⟨TD, TS, h, A, kv, kl, ok, ht, h1, h2⟩ := st.s
  obtain ⟨hz, _⟩ := putRs_size L m k v N hL hLm
  obtain ⟨hh, A2, ho, kl2, ok2, ht2⟩ := put_lit kl kN_good (L := L) (m := m) (k := k) (v := v) (N := N) kv.dv.nd hL hN hLm hk ok (by omega) hr
  refine (put_any kv (ok.hd (by omega)) ok.t (by have := ok.l; omega) k v (by omega) (by omega) hm (by omega) (fun e he => by have := hL e he; omega) (fun _ => by omega)).mono ?_
  rintro e w' ⟨he, hk2⟩
  rw [ho] at he hk2
  refine ⟨he, ?_, ?_⟩
  · obtain ⟨TD2, TS2, q1, q2, q3, q4⟩ := hk2
    rw [if_pos rfl] at q1
    exact ⟨TD2, TS2, hh, A2, q1, kl2, ok2, by omega, fun q hq => Gr.ge h1 hB q (q2 q hq), fun q hq => Gr.ge h2 hB q (q3 q hq)⟩
  · obtain ⟨TD2, TS2, q1, q2, q3, q4⟩ := hk2
    exact q4.below (fun q hq => by rcases hq with hq | hq; exact h1 q hq; exact h2 q hq) hB
theorem get_sta {B : Nat} {r : Int} {b d : Nat} {m : Int} {L : List En} {n T : Nat} {w : World} (st : Sta B r b d m L n T w) (hl : L.length ≤ 8192) (k : ByteArray) :
    Calls Try.prog 17 #[.pointer (some ⟨b, 0, none⟩), .string k] w fun e w' => e = .returned (.tuple #[.string (getL L k).1, .bool (getL L k).2]) ∧ Below w.heap.size w w' := by
  obtain ⟨TD, TS, h, A, kv, _⟩ := st.s
  exact get_any kv.st (by omega) k
theorem keys_sta {B : Nat} {r : Int} {b d : Nat} {m : Int} {L : List En} {n T : Nat} {w : World} (st : Sta B r b d m L n T w) (hl : L.length ≤ 8192) :
    Calls Try.prog 22 #[.pointer (some ⟨b, 0, none⟩)] w (StrsEnd (L.map (·.1)) w) := by
  obtain ⟨TD, TS, h, A, kv, _⟩ := st.s
  exact keys_any kv.st (by omega)
/-- A device that is new, and a store on it. -/
theorem start_sta {w0 w : World} {d : Nat} {room : Int} (h1 : 0 ≤ room) (h2 : room ≤ 1048576) (dv : DV (fun k => w0.heap.size ≤ k ∧ k < w.heap.size) d (newH room) [] w) (hB : w0.heap.size ≤ w.heap.size) (m : Int) (hm : 1 ≤ m ∧ m ≤ 4096) :
    Calls Try.prog 12 #[.pointer (some ⟨d, 0, none⟩), .string kN, .int .i64 m] w fun e w' => ∃ b, e = .returned (.tuple #[.pointer (some ⟨b, 0, none⟩), .int .i64 0]) ∧ Sta w0.heap.size room b d m [] 0 0 w' ∧ Below w0.heap.size w w' := by
  refine (open_new h1 h2 dv (fun k hk => hk.2) m hm).mono ?_
  rintro e w' ⟨b, TD, TS, he, kv, q1, q2, q3⟩
  refine ⟨b, he, ⟨TD, TS, _, _, kv, new_lit room h1 h2, new_ok room h1 h2, by simp [totA], fun k hk => ?_, fun k hk => ?_⟩, q3.below (fun k hk => hk.1) hB⟩
  · rcases q1 k hk with hk | hk
    · exact hk.1
    · omega
  · have := q2 k hk; omega
def aB : ByteArray := ⟨#[97]⟩
def bB : ByteArray := ⟨#[98]⟩
def oneB : ByteArray := ⟨#[49]⟩
def twoB : ByteArray := ⟨#[50]⟩
set_option maxRecDepth 100000 in
set_option maxHeartbeats 2000000 in
theorem alive_any (w : World) : Calls Try.prog 9 #[] w fun e w' => e = .returned (.bool true) ∧ Below w.heap.size w w' := by
  have HN := Lib.hid (cNew 1000 w)
  have sa : aB.size = 1 := rfl
  have sb : bB.size = 1 := rfl
  have s1 : oneB.size = 1 := rfl
  have s2 : twoB.size = 1 := rfl
  have L1 : (if getL [] aB = (oneB, true) then [] else putL [] 1 aB oneB) = [(aB, oneB)] := by decide
  have L2 : (if getL [(aB, oneB)] bB = (twoB, true) then [(aB, oneB)] else putL [(aB, oneB)] 1 bB twoB) = [(bB, twoB)] := by decide
  have G1 : getL [(bB, twoB)] aB = (⟨#[]⟩, false) := by decide
  have G2 : getL [(bB, twoB)] bB = (twoB, true) := by decide
  have HL1 := Lib.hid L1
  have HL2 := Lib.hid L2
  have HG1 := Lib.hid G1
  have HG2 := Lib.hid G2
  clear L1 L2 G1 G2
  go_enter Try.func9, Try.ntmps9
  go_wp2_with fail
  refine HN.out.mono ?_
  rintro e w1 ⟨rfl, hd, hB⟩
  have HB := Lib.hid hB
  have HO := Lib.hid (start_sta (by decide) (by decide) hd hB.size 1 (by decide))
  unfold kN at HO
  clear hd hB HN
  go_wp2_with fail
  refine HO.out.mono ?_
  rintro e w2 ⟨b, rfl, hs, hB⟩
  have HB2 := Lib.hid (HB.out.trans hB)
  have HP := Lib.hid (put_sta hs HB2.out.size 1 aB oneB (by simp) (by omega) (by decide) (by simp) (by omega) (by omega) (by decide) (by omega))
  rw [HL1.out] at HP
  unfold aB oneB at HP
  clear hs hB HO HB
  go_wp2_with fail
  refine HP.out.mono ?_
  rintro e w3 ⟨rfl, hs, hB⟩
  have HB3 := Lib.hid (HB2.out.trans hB)
  have HP2 := Lib.hid (put_sta hs HB3.out.size 1 bB twoB (by intro e he; rw [List.mem_singleton.1 he]; exact Nat.le_refl 1) (by omega) (by decide) (by simp) (by omega) (by omega) (by decide) (by
    have : (⟨#[97]⟩ : ByteArray).size = 1 := rfl
    have : (⟨#[49]⟩ : ByteArray).size = 1 := rfl
    omega))
  have hL2 := HL2.out
  unfold aB oneB at hL2
  rw [hL2] at HP2
  unfold bB twoB at HP2
  clear hs hB HP HB2 hL2
  go_wp2_with fail
  refine HP2.out.mono ?_
  rintro e w4 ⟨rfl, hs, hB⟩
  have HB4 := Lib.hid (HB3.out.trans hB)
  have HS := Lib.hid hs
  have HGa := Lib.hid (get_sta hs (by simp) aB)
  have hg1 := HG1.out
  unfold bB twoB at hg1
  rw [hg1] at HGa
  unfold aB at HGa
  clear hs hB HP2 HB3 hg1
  go_wp2_with fail
  refine HGa.out.mono ?_
  rintro e w5 ⟨rfl, hB⟩
  have HB5 := Lib.hid (HB4.out.trans (hB.mono HB4.out.size))
  have HGb := Lib.hid (get_sta (HS.out.below hB) (by simp) bB)
  have hg2 := HG2.out
  unfold bB twoB at hg2
  unfold bB at HGb
  rw [hg2] at HGb
  clear hB HGa HB4 hg2 HS
  go_wp2_with fail
  refine HGb.out.mono ?_
  rintro e w6 ⟨rfl, hB⟩
  have HB6 := Lib.hid (HB5.out.trans (hB.mono HB5.out.size))
  clear hB HGb HB5
  go_wp2_with fail
  go_ret
  exact ⟨rfl, HB6.out⟩
theorem strs_kept {w w' : World} {B : Nat} {v : Value} {ss : List ByteArray} (h : Strs w v ss) (hB : Below B w w') (hlt : w.heap.size ≤ B) : Strs w' v ss := h.below (hB.mono hlt)
theorem strs_cells {w : World} {p : Option Addr} {n cap : Nat} {ss : List ByteArray} (h : Strs w (.slice p n cap) ss) : n = ss.length ∧ (0 < ss.length → ss.length ≤ cap ∧ cap ≤ maxLen ∧ ∃ b off, p = some ⟨b, off, none⟩ ∧ b < w.heap.size ∧ ∀ i (h : i < ss.length), w.cell? ⟨b, off + i, none⟩ = some (.string ss[i])) := by
  rcases h with ⟨⟨p', cap', hv⟩, rfl⟩ | ⟨b, off, cap', hv, hl, hm, hb, hc⟩
  · simp only [Value.slice.injEq] at hv
    exact ⟨hv.2.1, fun h => absurd h (Nat.lt_irrefl _)⟩
  · simp only [Value.slice.injEq] at hv
    obtain ⟨rfl, rfl, rfl⟩ := hv
    refine ⟨rfl, fun _ => ⟨hl, hm, b, off, rfl, hb, fun i hi => ?_⟩⟩
    have := hc i hi
    rw [List.getD_eq_getElem?_getD, List.getElem?_eq_getElem hi] at this
    exact this
/-- What a Put leaves. -/
theorem putL_len (L : List En) (m : Int) (k v : ByteArray) (hLm : (L.length : Int) ≤ m) (hm : 1 ≤ m) : ((putL L m k v).length : Int) ≤ m ∧ 1 ≤ (putL L m k v).length := by
  unfold putL
  rw [List.length_append, List.length_singleton]
  refine ⟨?_, by omega⟩
  cases hw : whereL L k with
  | some i =>
    dsimp only
    unfold dropL
    rw [hw]
    obtain ⟨hi, _⟩ := whereL_lt hw
    dsimp only
    rw [List.length_eraseIdx_of_lt hi]
    omega
  | none =>
    dsimp only
    have := dropL_len (L.drop ((L.length : Int) + 1 - m).toNat) k
    rw [List.length_drop] at this
    omega
theorem mem_dropL {L : List En} {k : ByteArray} {e : En} (h : e ∈ dropL L k) : e ∈ L := by
  unfold dropL at h
  split at h
  · exact List.mem_of_mem_eraseIdx h
  · exact h
theorem putL_mem {L : List En} {m : Int} {k v : ByteArray} {e : En} (h : e ∈ putL L m k v) : e ∈ L ∨ e = (k, v) := by
  unfold putL at h
  rcases List.mem_append.1 h with h | h
  · left
    have := mem_dropL h
    split at this
    · exact this
    · exact List.mem_of_mem_drop this
  · right
    simpa using h
theorem putL_last (L : List En) (m : Int) (k v : ByteArray) : ((putL L m k v).map (·.1)).getLast? = some k := by
  unfold putL
  simp
end Go.Proofs.Ytbdlmdmbaajcmaa
