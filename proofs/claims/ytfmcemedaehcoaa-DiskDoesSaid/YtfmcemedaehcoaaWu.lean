/- Walks: the statement DiskLoses: what comes in, what is there behind a loss. -/
import Derived.Test.YtfmcemedaehcoaaOp
import Derived.Test.YtfmcemedaehcoaaWt
namespace Go.Proofs.Ytfmcemedaehcoaa
set_option linter.unusedVariables false
set_option linter.unusedSimpArgs false
open Go.ChangeShapes Go.WideShapes Go.ChangeAt Go.RowKit Go.ChangeMaps

/-- A row of bytes that came in. -/
def bslR (W : World) (l : List UInt8) (cs : List Value) : Prop := ∃ v, cs = [v] ∧ BytsA W v l ∧ l.length ≤ 140737488351232
theorem BytsA.len {w : World} {a : Option Addr} {len cap : Nat} {l : List UInt8} (h : BytsA w (.slice a len cap) l) : l.length ≤ len := by
  rcases h with ⟨_, rfl⟩ | ⟨x, c, _, rfl⟩ | ⟨b, off, c, e, _⟩
  · simp
  · simp
  · injection e with _ e _; omega
theorem opens_bsl {P : Program} {W : World} {t e : TypeId} (ht : P.underlying t = some (.slice e)) (he : P.underlying e = some (.int .u8)) (hc : P.cellsOf e = 1) (hb : P.bytesOf e = 1) : Opens P W t (bslR W) := by
  intro H enc base fuel cs d p htr hw hp
  rcases Go.Deep.open_slice ht htr with ⟨rfl, _⟩ | ⟨a, len, cap, m, k, D, Pl, rfl, _, hl, _, hmm, hx, _⟩
  · exact ⟨[], _, rfl, .inl ⟨rfl, rfl⟩, by simp⟩
  · obtain ⟨l, hl1, _⟩ := byts_open (a := some a) (len := len) (cap := cap) ht he hc (by rw [show (Value.slice (some a) len cap).cells.toList = [.slice (some a) len cap] from rfl]; exact htr)
    refine ⟨l, _, rfl, hl1, ?_⟩
    simp only [Prod.mk.injEq] at hx
    obtain ⟨rfl, rfl⟩ := hx
    have h1 := hw ((((List.range len).map D).length + ((List.range (m - len)).map fun j => D (len + j)).length) * P.bytesOf e) (by simp only [DataW.weights, ht]; exact List.mem_cons_self)
    rw [hb] at h1
    simp only [List.length_map, List.length_range] at h1
    have := hl1.len
    omega
theorem opens_texts (W : World) : Opens Try.prog W 52 (rowsR W 1 (bslR W)) := opens_list Try.underlying52 (by kernel_rfl) (by decide) (opens_bsl Try.underlying29 Try.underlying5 (by kernel_rfl) (by kernel_rfl))
theorem opens_syncs (W : World) : Opens Try.prog W 53 (rowsR W 1 boolR) := opens_list Try.underlying53 (by kernel_rfl) (by decide) (opens_bool Try.underlying4)
theorem mkB_size (l : List UInt8) : (mkB l).size = l.length := by
  unfold mkB
  rw [Lib.size_eq]
theorem mkB_app (a b : List UInt8) : mkB a ++ mkB b = mkB (a ++ b) := by
  apply ByteArray.ext
  simp [mkB]
theorem mkB_take (l : List UInt8) (n : Nat) : (mkB l).extract 0 n = mkB (l.take n) := by
  apply ByteArray.ext
  simp [mkB, ByteArray.data_extract]
/-- What is there behind a loss. -/
theorem lose_le {k : Int} {t : Bool} {d : List UInt8} {s : Nat} (h : s ≤ d.length) : s ≤ (loseD k t d s).length ∧ (loseD k t d s).length ≤ d.length := by
  rw [loseD_len h]
  have := keptN_le k d s
  omega
theorem lose_take {k : Int} {t : Bool} {d : List UInt8} {s : Nat} (h : s ≤ d.length) {n : Nat} (hn : n ≤ (loseD k t d s).length) (hn2 : t = true → s < (loseD k t d s).length → n < (loseD k t d s).length) : (loseD k t d s).take n = d.take n := by
  have hl := loseD_len (keep := k) (torn := t) h
  have hk := keptN_le k d s
  rw [hl] at hn hn2
  unfold loseD
  by_cases hc : 0 < keptN k d s ∧ t = true
  · rw [if_pos hc, List.take_set, List.set_eq_of_length_le (by have := hn2 hc.2 (by omega); rw [List.length_take, List.length_take]; omega), List.take_take, Nat.min_eq_left (by omega)]
  · rw [if_neg hc, List.take_take, Nat.min_eq_left (by omega)]
def filA (i : Nat) (a : List UInt8) (s : Nat) : List Ab := if i = 0 then [] else [(FF, a, s)]
theorem filA_tot {i : Nat} {a : List UInt8} {s : Nat} (h : i = 0 → a = []) : totA (filA i a s) = a.length := by
  unfold filA
  by_cases hi : i = 0
  · rw [if_pos hi, h hi]; rfl
  · rw [if_neg hi]; simp [totA]
theorem filA_len {i : Nat} {a : List UInt8} {s : Nat} : (filA i a s).length ≤ 1048576 := by
  unfold filA
  split <;> simp
theorem filA_apd {i : Nat} {a c : List UInt8} {s : Nat} (h : i = 0 → a = [] ∧ s = 0) : apdA (filA i a s) FF c = [(FF, a ++ c, s)] := by
  unfold filA
  by_cases hi : i = 0
  · obtain ⟨rfl, rfl⟩ := h hi
    rw [if_pos hi]; rfl
  · rw [if_neg hi]; rfl
theorem syn_one (a : List UInt8) (s : Nat) : synA [(FF, a, s)] FF = [(FF, a, a.length)] := rfl
theorem lose_one (k : Int) (t : Bool) (a : List UInt8) (s : Nat) : [(FF, a, s)].map (loseA k t) = [(FF, loseD k t a s, (loseD k t a s).length)] := rfl
theorem str_upto (s : ByteArray) (n : Nat) (h : n ≤ s.size) (w : World) : (Instr.sliceAt 9 (.string s) none (some (.int .i64 (n : Nat))) none).run Try.prog w = .ok (.string (s.extract 0 n)) w := by
  have h1 := run_slice_string_h w 9 s (P := Try.prog) Try.underlying9 .i64 (n : Nat) (by omega) (by omega)
  simp only [Int.toNat_natCast] at h1
  simpa [Instr.sliceAt] using h1
end Go.Proofs.Ytfmcemedaehcoaa
