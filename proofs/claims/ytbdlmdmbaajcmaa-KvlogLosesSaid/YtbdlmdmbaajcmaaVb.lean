/- Scripts as they come in. -/
import Derived.Test.YtbdlmdmbaajcmaaZu
import Derived.Test.YtbdlmdmbaajcmaaOp
namespace Go.Proofs.Ytbdlmdmbaajcmaa
set_option linter.unusedVariables false
set_option linter.unusedSimpArgs false
open Go.ChangeShapes Go.WideShapes Go.ChangeAt Go.RowKit

abbrev CX := Int × ByteArray × ByteArray × Int × Int × Int × Bool × Unit
def callR (W : World) : CX → List Value → Prop := consR (intR .i64) (consR strR (consR strR (consR (intR .i64) (consR (intR .i64) (consR (intR .i64) (consR boolR nilR))))))
instance : Inhabited CX := ⟨(0, ByteArray.empty, ByteArray.empty, 0, 0, 0, false, ())⟩
theorem opens_call (W : World) : Opens Try.prog W 36 (callR W) :=
  opens_struct Try.underlying36 (by kernel_rfl) (opensF_cons (k := 1) rfl (by kernel_rfl) (opens_int Try.underlying3) (opensF_cons (k := 1) rfl (by kernel_rfl) (opens_str Try.underlying9) (opensF_cons (k := 1) rfl (by kernel_rfl) (opens_str Try.underlying9) (opensF_cons (k := 1) rfl (by kernel_rfl) (opens_int Try.underlying3) (opensF_cons (k := 1) rfl (by kernel_rfl) (opens_int Try.underlying3) (opensF_cons (k := 1) rfl (by kernel_rfl) (opens_int Try.underlying3) (opensF_cons (k := 1) rfl (by kernel_rfl) (opens_bool Try.underlying4) opensF_nil)))))))
theorem opens_script (W : World) : Opens Try.prog W 22 (rowsR W 7 (callR W)) := opens_list Try.underlying22 (by kernel_rfl) (by decide) (opens_call W)
/-- A call that came in. -/
structure CIn (c : Cl) : Prop where
  a : c.key.size ≤ 140737488351232
  z : c.val.size ≤ 140737488351232
  n : -9223372036854775808 ≤ c.n ∧ c.n ≤ 9223372036854775807
  f : -9223372036854775808 ≤ c.fuse ∧ c.fuse ≤ 9223372036854775807
  k : -9223372036854775808 ≤ c.keep ∧ c.keep ≤ 9223372036854775807
theorem i64_in {n : Int} (h : (Lit.int .i64 n).wf = true) : -9223372036854775808 ≤ n ∧ n ≤ 9223372036854775807 := by
  simp [Lit.wf, IntKind.min, IntKind.max, IntKind.bits, IntKind.signed] at h; omega
theorem call_of {W : World} {x : CX} {cs : List Value} (h : callR W x cs) : ∃ c : Cl, cs = clV c ∧ CIn c := by
  obtain ⟨kd, a, z, n, fu, k, t, _⟩ := x
  obtain ⟨c1, r1, rfl, ⟨rfl, h1⟩, c2, r2, rfl, ⟨rfl, h2⟩, c3, r3, rfl, ⟨rfl, h3⟩, c4, r4, rfl, ⟨rfl, h4⟩, c5, r5, rfl, ⟨rfl, h5⟩, c6, r6, rfl, ⟨rfl, h6⟩, c7, r7, rfl, rfl, rfl⟩ := h
  exact ⟨⟨kd, a, z, n, fu, k, t⟩, rfl, h2, h3, i64_in h4, i64_in h5, i64_in h6⟩
theorem script_open {W : World} {v : Value} {l : List CX} (h : Rows W 7 (callR W) v l) : ∃ cs : List Cl, LAt 7 clV W v cs ∧ (∀ c ∈ cs, CIn c) ∧ cs.length ≤ 9223372036854775807 := by
  rcases h with ⟨⟨p, cap, rfl⟩, rfl⟩ | ⟨b, off, cap, rfl, h0, hl, hm, hb, hcell⟩
  · exact ⟨[], ⟨fun c _ => clV_len c, .inl ⟨p, cap, rfl, rfl⟩⟩, by simp, by simp⟩
  · have hel : ∀ i, i < l.length → ∃ c : Cl, CIn c ∧ ∀ j, j < 7 → W.cell? ⟨b, off + i * 7 + j, none⟩ = (clV c)[j]? := fun i hi => by
      obtain ⟨ecs, h1, h2, h3⟩ := hcell i l[i] (by simp [hi])
      obtain ⟨c, rfl, hc⟩ := call_of h1
      exact ⟨c, hc, h3⟩
    haveI : Inhabited Cl := ⟨⟨0, ByteArray.empty, ByteArray.empty, 0, 0, 0, false⟩⟩
    obtain ⟨f, hf⟩ := Go.Deep.choose_lt hel
    have hlen : ((List.range l.length).map f).length = l.length := by simp
    refine ⟨(List.range l.length).map f, ⟨fun c _ => clV_len c, .inr ⟨b, off, cap, by rw [hlen], hb, by rw [hlen]; exact hl, hm, fun j x hx => ?_⟩⟩, fun c hc => ?_, by rw [hlen]; unfold maxLen at hm; omega⟩
    · have hj : j < l.length * 7 := by
        have := (List.getElem?_eq_some_iff.1 hx).1
        rw [LF_len (n := 7) _ (fun c _ => clV_len c), hlen] at this
        exact this
      have hi : j / 7 < l.length := by omega
      have e : j = j / 7 * 7 + j % 7 := by omega
      have h2 := LF_at (fl := clV) (n := 7) ((List.range l.length).map f) (fun c _ => clV_len c) (j / 7) (f (j / 7)) (by simp [hi]) (j % 7) (by omega)
      rw [← e, hx] at h2
      have h3 := (hf (j / 7) hi).2 (j % 7) (by omega)
      rw [h2]
      rw [← h3]
      congr 2
      omega
    · obtain ⟨i, hi, rfl⟩ := List.mem_map.1 hc
      exact (hf i (List.mem_range.1 hi)).1
end Go.Proofs.Ytbdlmdmbaajcmaa
