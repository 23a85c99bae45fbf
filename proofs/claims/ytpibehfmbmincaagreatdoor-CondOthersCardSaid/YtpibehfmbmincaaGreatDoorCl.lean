/- Walks: the statement CondOthers, of whatever arguments. -/
import Derived.Test.YtpibehfmbmincaaGreatDoorCk
import Derived.Test.YtpibehfmbmincaaGreatDoorDr
namespace Go.Proofs.YtpibehfmbmincaaGreatDoor
set_option linter.unusedVariables false
open Go.ChangeShapes Go.WideShapes Go.ChangeAt Go.RowKit

abbrev headR (W : World) := consR strR (consR (rowsR W 3 impR) (consR strR (consR (rowsR W 1 strR) (consR (intR .i64) (consR (intR .i64) nilR)))))
theorem opens_imp (W : World) : Opens Tryz.prog W 52 impR :=
  opens_struct Tryz.underlying52 (by kernel_rfl) (opensF_cons (k := 1) rfl (by kernel_rfl) (opens_str Tryz.underlying9) (opensF_cons (k := 1) rfl (by kernel_rfl) (opens_str Tryz.underlying9) (opensF_cons (k := 1) rfl (by kernel_rfl) (opens_int Tryz.underlying3) opensF_nil)))
theorem opens_head (W : World) : Opens Tryz.prog W 33 (headR W) :=
  opens_struct Tryz.underlying33 (by kernel_rfl) (opensF_cons (k := 1) rfl (by kernel_rfl) (opens_str Tryz.underlying9) (opensF_cons (k := 1) rfl (by kernel_rfl) (opens_list Tryz.underlying31 (by kernel_rfl) (by decide) (opens_imp W)) (opensF_cons (k := 1) rfl (by kernel_rfl) (opens_str Tryz.underlying9)
    (opensF_cons (k := 1) rfl (by kernel_rfl) (opens_list Tryz.underlying22 (by kernel_rfl) (by decide) (opens_str Tryz.underlying9)) (opensF_cons (k := 1) rfl (by kernel_rfl) (opens_int Tryz.underlying3) (opensF_cons (k := 1) rfl (by kernel_rfl) (opens_int Tryz.underlying3) opensF_nil))))))
theorem head_of_R {W : World} {a : _} {c : Array Value} (h : headR W a c.toList) : ∃ (d : Hd) (iv ev : Value) (at_ : Int), (.agg c : Value) = hdV d iv ev at_ ∧ Rows W 3 impR iv d.imps ∧ (∃ s k cs, ev = .slice s k cs) ∧ d.name.size ≤ 140737488351232 ∧ d.build.size ≤ 140737488351232 := by
  obtain ⟨nm, im, bu, em, fl, at_, u⟩ := a
  obtain ⟨c1, r1, e1, ⟨rfl, hn⟩, c2, r2, rfl, ⟨iv, rfl, hi⟩, c3, r3, rfl, ⟨rfl, hb⟩, c4, r4, rfl, ⟨ev, rfl, hv⟩, c5, r5, rfl, ⟨rfl, hfl⟩, c6, r6, rfl, ⟨rfl, hat⟩, rfl⟩ := h
  obtain ⟨s, cs, hev, -⟩ := hv.shape
  refine ⟨⟨nm, im, bu, fl⟩, iv, ev, at_, ?_, hi, ⟨s, _, cs, hev⟩, hn, hb⟩
  have : c = #[.string nm, iv, .string bu, ev, .int .i64 fl, .int .i64 at_] := by
    cases c
    simp_all
  rw [this]
  rfl
theorem others_any (c : Cf) (tv : Value) (file : ByteArray) (d : Hd) (iv ev : Value) (at_ : Int) (w : World) (hE : Env w) (hv : Strs w tv c.tags) (hz : ∀ x ∈ c.tags, x.size ≤ 140737488351232) (hl : c.tags.length ≤ 9223372036854775807) (ho : c.os.size ≤ 140737488351232) (ha : c.arch.size ≤ 140737488351232)
    (hi : Rows w 3 impR iv d.imps) (hev : ∃ s k cs, ev = .slice s k cs) (hf : file.size ≤ 140737488351232) (hn : d.name.size ≤ 140737488351232) (hb : d.build.size ≤ 140737488351232) :
    Calls Tryz.prog 4 #[cfV c tv, .string file, hdV d iv ev at_] w (LawEnd w) := by
  have HA := Lib.hid (fun w1 (h1 : Below w.heap.size w w1) => alive_any w1 (hE.below h1))
  have HG := fun w1 (h1 : Below w.heap.size w w1) => greatC_any c tv w1 (hv.below h1) hz hl ho ha
  obtain ⟨p, cap, rfl, -⟩ := strs_shape hv
  obtain ⟨q, cq, rfl, -⟩ := hi.shape
  obtain ⟨s, k, cs, rfl⟩ := hev
  cases hg : greatC c with
  | true =>
    rw [hg] at HG
    exact oth_great c.os c.arch file d.name d.build c.cgo c.lv d.fault at_ p q s _ cap _ cq k cs w HA (Lib.hid HG) hf hb hn
  | false =>
    rw [hg] at HG
    by_cases h5 : (512 : Int) < (file.size : Int) + (d.build.size : Int) + (d.name.size : Int)
    · exact oth_long c.os c.arch file d.name d.build c.cgo c.lv d.fault at_ p q s _ cap _ cq k cs w HA (Lib.hid HG) hf hb hn h5
    by_cases h20 : (20 : Int) < (d.imps.length : Int)
    · exact oth_many c.os c.arch file d.name d.build c.cgo c.lv d.fault at_ p q s _ cap _ cq k cs w HA (Lib.hid HG) hf hb hn h5 h20
    have ht := great_few hg
    refine oth_main c.os c.arch file d.name d.build c.cgo c.lv d.fault at_ p q s _ cap _ cq k cs w HA (Lib.hid HG) hf hb hn h5 h20 ht c.tags (Lib.hid rfl) (Lib.hid fun w1 h1 => hv.below h1)
      (inR c (ofB file) d).1 (inR c (ofB file) d).2 (Lib.hid fun w1 h1 => ?_) (Lib.hid fun tv' w1 h1 hs => ?_)
    · exact inh_any c file d _ _ (.slice s k cs) at_ w1 (hE.below h1) (hv.below h1) (by omega) (hi.below h1) ⟨_, _, _, rfl⟩ (by omega) (by omega) (by omega)
    · rw [in_turned c file d]
      exact inh_any (withT c (dashB :: c.tags.reverse)) file d tv' _ (.slice s k cs) at_ w1 (hE.below h1) hs (by simp [withT]; omega) (hi.below h1) ⟨_, _, _, rfl⟩ (by omega) (by omega) (by omega)
theorem others_walk {W : World} {a : _} {c : Array Value} (h : confR W a c.toList) {b : _} {e : Array Value} (hh : headR W b e.toList) (file : ByteArray) (hf : file.size ≤ 140737488351232) (hE : Env W) : Calls Tryz.prog 4 #[.agg c, .string file, .agg e] W (LawEnd W) := by
  obtain ⟨f, tv, e1, hs, hz, hl, ho, ha⟩ := conf_of h
  obtain ⟨d, iv, ev, at_, e2, hi, hev, hn, hb⟩ := head_of_R hh
  rw [e1, e2]
  exact others_any f tv file d iv ev at_ W hE hs hz hl ho ha hi hev hf hn hb
end Go.Proofs.YtpibehfmbmincaaGreatDoor
