/- Walks: the statement CondNames, of any platform. -/
import Derived.Test.YtpibehfmbmincaaGreatDoorCg
namespace Go.Proofs.YtpibehfmbmincaaGreatDoor
set_option linter.unusedVariables false
open Go.ChangeShapes Go.WideShapes Go.ChangeAt Go.RowKit

theorem in_val (c : Cf) (t : Bool) (x y : ByteArray) (b : Bool) (h : (!(outB c x) && !(outB c y)) = b) : inR c (true, t, x, y) plainH = (cond b (wantN t) 0, 0) := by
  rw [inR_plain]
  subst h
  cases outB c x <;> cases outB c y <;> rfl
theorem in_plain (c : Cf) (f : ByteArray) (t : Bool) (x y : ByteArray) (b : Bool) (tv : Value) (w : World) (hE : Env w) (hv : Strs w tv c.tags) (hl : c.tags.length ≤ 1073741824) (hf : f.size ≤ 1073741823) (hr : ofB f = (true, t, x, y)) (hb : (!(outB c x) && !(outB c y)) = b) :
    Calls Tryz.prog 10 #[cfV c tv, .string f, .agg #[.string ⟨#[112]⟩, .slice none 0 0, .string ⟨#[]⟩, .slice none 0 0, .int .i64 0, .int .i64 0]] w fun e w' => e = .returned (.tuple #[.int .i64 (cond b (wantN t) 0), .int .i64 0]) ∧ Below w.heap.size w w' := by
  have h := in0_any c f plainH tv (.slice none 0 0) (.slice none 0 0) 0 w hE hv hl (.inl ⟨⟨_, _, rfl⟩, rfl⟩) ⟨_, _, _, rfl⟩ rfl hf (by decide) (by decide)
  rw [hr, in_val c t x y b hb] at h
  exact h
theorem names_any (c : Cf) (tv : Value) (i k : Int) (t : Bool) (w : World) (hE : Env w) (hv : Strs w tv c.tags) (hz : ∀ x ∈ c.tags, x.size ≤ 140737488351232) (hl : c.tags.length ≤ 1073741824) (ho : c.os.size ≤ 140737488351232) (ha : c.arch.size ≤ 140737488351232) :
    Calls Tryz.prog 5 #[cfV c tv, .int .i64 i, .int .i64 k, .bool t] w (LawEnd w) := by
  have HA := Lib.hid (fun w1 (h1 : Below w.heap.size w w1) => alive_any w1 (hE.below h1))
  have HG := fun w1 (h1 : Below w.heap.size w w1) => greatC_any c tv w1 (hv.below h1) hz (by omega) ho ha
  have HO := fun t (ht : t.size ≤ 9) w1 (h1 : Below w.heap.size w w1) => on_any c t tv w1 (hE.below h1) (hv.below h1) hl (by omega)
  have HI := fun f t x y b (hf : f.size ≤ 1073741823) hr hb w1 (h1 : Below w.heap.size w w1) => in_plain c f t x y b tv w1 (hE.below h1) (hv.below h1) hl hf hr hb
  have hes := ext_size t
  have hF : (⟨#[120]⟩ ++ extE t : ByteArray).size ≤ 1073741823 := by rw [app_size]; have : (⟨#[120]⟩ : ByteArray).size = 1 := rfl; omega
  have hS : ∀ z, z ∈ sysL ∨ z ∈ procL → (⟨#[120, 95]⟩ ++ z ++ extE t : ByteArray).size ≤ 1073741823 := fun z hz => by rw [app_size, app_size]; have : (⟨#[120, 95]⟩ : ByteArray).size = 2 := rfl; have := known_size z hz; omega
  have hB : ∀ o, o ∈ sysL → ∀ a, a ∈ procL → (⟨#[120, 95]⟩ ++ o ++ ⟨#[95]⟩ ++ a ++ extE t : ByteArray).size ≤ 1073741823 := fun o ho a ha => by
    rw [app_size, app_size, app_size, app_size]; have : (⟨#[120, 95]⟩ : ByteArray).size = 2 := rfl; have : (⟨#[95]⟩ : ByteArray).size = 1 := rfl; have := known_size o (.inl ho); have := known_size a (.inr ha); omega
  have IF := HI _ t ⟨#[]⟩ ⟨#[]⟩ true hF (plain_ext t) (by rw [outB_none]; rfl)
  have IS := fun o (ho : o ∈ sysL) b (hb : onB c o = b) => HI _ t o ⟨#[]⟩ b (hS o (.inl ho)) (x_os o t ho) (by rw [outB_none, outB_known c o (.inl ho), hb]; cases b <;> rfl)
  have IP := fun a (ha : a ∈ procL) b (hb : onB c a = b) => HI _ t ⟨#[]⟩ a b (hS a (.inr ha)) (x_arch a t ha) (by rw [outB_none, outB_known c a (.inr ha), hb]; cases b <;> rfl)
  have IB := fun o (ho : o ∈ sysL) a (ha : a ∈ procL) b (hb : (onB c o && onB c a) = b) => HI _ t o a b (hB o ho a ha) (x_two o a t ho ha) (by rw [outB_known c o (.inl ho), outB_known c a (.inr ha), ← hb]; cases onB c o <;> cases onB c a <;> rfl)
  clear HI hF hS hB
  obtain ⟨p, cap, rfl, -⟩ := strs_shape hv
  clear hE hv
  generalize hon : onB c = onS at *
  obtain ⟨os, arch, cgo, lv, tags⟩ := c
  unfold cfV at *
  simp only at *
  cases hg : greatC ⟨os, arch, cgo, lv, tags⟩ with
  | true => exact nam_great os arch cgo lv i k t p _ cap w HA (Lib.hid (by rw [hg] at HG; exact HG))
  | false =>
    rw [hg] at HG
    have HG := Lib.hid HG
    cases t with
    | false => exact nam_false os arch cgo lv i k p _ cap w HA HG onS (Lib.hid IF) (Lib.hid IS) (Lib.hid IP) (Lib.hid IB) (Lib.hid HO)
    | true => exact nam_true os arch cgo lv i k p _ cap w HA HG onS (Lib.hid IF) (Lib.hid IS) (Lib.hid IP) (Lib.hid IB) (Lib.hid HO)
end Go.Proofs.YtpibehfmbmincaaGreatDoor
