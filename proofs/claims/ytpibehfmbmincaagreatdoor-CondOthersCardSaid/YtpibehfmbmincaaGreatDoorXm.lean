/- Plain: what ofB answers of texts with an end. -/
import Derived.Test.YtpibehfmbmincaaGreatDoorXg
namespace Go.Proofs.YtpibehfmbmincaaGreatDoor
set_option linter.unusedVariables false

theorem app_size (a b : ByteArray) : (a ++ b).size = a.size + b.size := by
  rw [← ba_len, ba_append, List.length_append, ba_len, ba_len]
theorem ext_app (b x : ByteArray) : (b ++ x).extract 0 ((b ++ x).size - x.size) = b := by
  apply ba_ext
  rw [Lib.extract_data, app_size, ba_append]
  rw [show b.size + x.size - x.size - 0 = b.data.toList.length by rw [ba_len]; omega]
  simp
theorem ends_app (b x : ByteArray) : endsB (b ++ x) x = true := by
  unfold endsB
  apply decide_eq_true
  refine ⟨by rw [app_size]; omega, ?_⟩
  apply ba_ext
  rw [Lib.extract_data, app_size, ba_append]
  rw [show b.size + x.size - x.size = b.data.toList.length by rw [ba_len]; omega]
  rw [List.drop_left, List.take_of_length_le (by rw [ba_len, ba_len]; omega)]
theorem pass_app (b x : ByteArray) (h : 0 < b.size) : passB (b ++ x) = passB b := by
  unfold passB
  have e : (b ++ x).data.toList.head? = b.data.toList.head? := by
    rw [ba_append]
    cases hb : b.data.toList with
    | nil => rw [← ba_len, hb] at h; simp at h
    | cons a r => rfl
  rw [e]
theorem app_assoc (a b c : ByteArray) : a ++ b ++ c = a ++ (b ++ c) := by
  apply ba_ext; simp only [ba_append, List.append_assoc]
theorem ends_of {s x : ByteArray} (h : endsB s x = true) : ∃ m, s = m ++ x := by
  unfold endsB at h
  obtain ⟨h1, h2⟩ := of_decide_eq_true h
  refine ⟨s.extract 0 (s.size - x.size), ?_⟩
  apply ba_ext
  rw [ba_append, ← h2]
  simp only [Lib.extract_data]
  have hl := ba_len s
  rw [List.drop_zero, Nat.sub_zero]
  rw [show (s.extract (s.size - x.size) s.size).size = x.size by rw [h2]]
  rw [List.take_of_length_le (l := s.data.toList.drop (s.size - x.size)) (by rw [List.length_drop]; omega)]
  rw [List.take_append_drop]

theorem ofB_go (b : ByteArray) (h0 : 0 < b.size) (hp : passB b = false) (ht : endsB b testE = false) : ofB (b ++ ⟨#[46, 103, 111]⟩) = (true, false, tagsB (cutB 95 b)) := by
  have e1 : endsB (b ++ goE) goE = true := ends_app b goE
  have e2 : passB (b ++ goE) = false := (pass_app b goE h0).trans hp
  have e3 : (b ++ goE).extract 0 ((b ++ goE).size - 3) = b := ext_app b goE
  show ofB (b ++ goE) = _
  unfold ofB
  rw [if_neg (by rw [e1, e2]; simp), e3, ht]
  unfold restB
  rw [if_neg (by rw [ht]; decide)]
theorem ofB_test (b : ByteArray) (h0 : 0 < b.size) (hp : passB b = false) : ofB (b ++ ⟨#[95, 116, 101, 115, 116, 46, 103, 111]⟩) = (true, true, tagsB (cutB 95 b)) := by
  have e0 : b ++ ⟨#[95, 116, 101, 115, 116, 46, 103, 111]⟩ = (b ++ testE) ++ goE := by rw [app_assoc]; congr 1
  rw [e0]
  have e1 : endsB ((b ++ testE) ++ goE) goE = true := ends_app _ goE
  have e2 : passB ((b ++ testE) ++ goE) = false := (pass_app _ goE (by rw [app_size]; omega)).trans ((pass_app b testE h0).trans hp)
  have e3 : ((b ++ testE) ++ goE).extract 0 (((b ++ testE) ++ goE).size - 3) = b ++ testE := ext_app _ goE
  have e4 : endsB (b ++ testE) testE = true := ends_app b testE
  have e5 : (b ++ testE).extract 0 ((b ++ testE).size - 5) = b := ext_app b testE
  unfold ofB
  rw [if_neg (by rw [e1, e2]; simp), e3, e4]
  unfold restB
  rw [if_pos e4, e5]
theorem ofB_pass (b x : ByteArray) (h0 : 0 < b.size) (hp : passB b = true) : ofB (b ++ x) = (false, false, ⟨#[]⟩, ⟨#[]⟩) := by
  unfold ofB
  rw [if_pos (.inr ((pass_app b x h0).trans hp))]

theorem cut_app (a b : ByteArray) (hb : (95 : UInt8) ∉ b.data.toList) : cutB 95 (a ++ ⟨#[95]⟩ ++ b) = cutB 95 a ++ [b] := by
  unfold cutB
  have e : (a ++ ⟨#[95]⟩ ++ b).data.toList = a.data.toList ++ (95 : UInt8) :: b.data.toList := by
    rw [ba_append, ba_append]; simp
  rw [e, cuts_append, cuts_none 95 b.data.toList [] hb]
  simp [mkB_data]
theorem known_free (z : ByteArray) (h : z ∈ sysL ∨ z ∈ procL) : (95 : UInt8) ∉ z.data.toList ∧ z ≠ ⟨#[116, 101, 115, 116]⟩ := by
  have hall : ((sysL ++ procL).all fun y => !(y.data.toList.any fun c => c == 95) && !(decide (y = ⟨#[116, 101, 115, 116]⟩))) = true := by decide +kernel
  have := List.all_eq_true.1 hall z (List.mem_append.2 h)
  rw [Bool.and_eq_true] at this
  refine ⟨fun hm => ?_, fun e => ?_⟩
  · have h1 := this.1
    rw [Bool.not_eq_true', List.any_eq_false] at h1
    exact h1 95 hm (by decide)
  · have h2 := this.2
    rw [Bool.not_eq_true'] at h2
    exact of_decide_eq_false h2 e
theorem not_test (a z : ByteArray) (h : z ∈ sysL ∨ z ∈ procL) : endsB (a ++ ⟨#[95]⟩ ++ z) testE = false := by
  rw [Bool.eq_false_iff]
  intro he
  obtain ⟨m, hm⟩ := ends_of he
  obtain ⟨hf, hne⟩ := known_free z h
  have e1 := cut_app a z hf
  have e2 : a ++ ⟨#[95]⟩ ++ z = m ++ ⟨#[95]⟩ ++ ⟨#[116, 101, 115, 116]⟩ := by
    rw [hm, app_assoc m]; congr 1
  rw [e2, cut_app m ⟨#[116, 101, 115, 116]⟩ (by decide)] at e1
  have := (List.append_inj' e1 rfl).2
  exact hne (List.cons.inj this).1.symm
theorem tags_one {L : List ByteArray} {z : ByteArray} (hL : 0 < L.length) (hz : z ∈ sysL) : tagsB (L ++ [z]) = (z, ⟨#[]⟩) := by
  have h1 := (inB_iff sysL z).2 hz
  have h2 := sys_not_proc z h1
  rw [tagsB_eq]
  have e : (L ++ [z]).length - 1 = L.length := by simp
  rw [e]
  have e2 : (L ++ [z]).getD L.length ByteArray.empty = z := by simp [List.getD]
  rw [e2, h1, h2]
  have : 2 ≤ (L ++ [z]).length := by simp; omega
  simp only [tagsQ, this]
  simp
theorem tags_two {L : List ByteArray} {y z : ByteArray} (hL : 0 < L.length) (hy : y ∈ sysL) (hz : z ∈ procL) : tagsB (L ++ [y] ++ [z]) = (y, z) := by
  have h1 := (inB_iff sysL y).2 hy
  have h2 := (inB_iff procL z).2 hz
  rw [tagsB_eq]
  have e : (L ++ [y] ++ [z]).length - 1 = (L ++ [y]).length := by simp
  have e' : (L ++ [y] ++ [z]).length - 2 = L.length := by simp
  rw [e, e']
  have e2 : (L ++ [y] ++ [z]).getD (L ++ [y]).length ByteArray.empty = z := by simp [List.getD]
  have e3 : (L ++ [y] ++ [z]).getD L.length ByteArray.empty = y := by simp [List.getD]
  rw [e2, e3, h1, h2]
  have : 3 ≤ (L ++ [y] ++ [z]).length := by simp; omega
  simp only [tagsQ, this]
  simp
theorem proc_not_sys (x : ByteArray) (h : inB procL x = true) : inB sysL x = false := by
  rw [Bool.eq_false_iff]; intro hs
  have := sys_not_proc x hs
  rw [h] at this; cases this
theorem tags_proc {L : List ByteArray} {z : ByteArray} (hL : 0 < L.length) (hz : z ∈ procL) (hl : L.length = 1 ∨ inB sysL (L.getD (L.length - 1) ByteArray.empty) = false) : tagsB (L ++ [z]) = (⟨#[]⟩, z) := by
  have h2 := (inB_iff procL z).2 hz
  have h1 := proc_not_sys z h2
  rw [tagsB_eq]
  have e : (L ++ [z]).length - 1 = L.length := by simp
  have e' : (L ++ [z]).length - 2 = L.length - 1 := by simp
  rw [e, e']
  have e2 : (L ++ [z]).getD L.length ByteArray.empty = z := by simp [List.getD]
  have e3 : (L ++ [z]).getD (L.length - 1) ByteArray.empty = L.getD (L.length - 1) ByteArray.empty := by
    simp only [List.getD]; rw [List.getElem?_append_left (by omega)]
  rw [e2, e3, h1, h2]
  have h3 : 2 ≤ (L ++ [z]).length := by simp; omega
  rcases hl with hl | hl
  · have h4 : ¬ 3 ≤ (L ++ [z]).length := by simp; omega
    simp only [tagsQ, h3, h4]
    simp
  · rw [hl]
    simp only [tagsQ, h3]
    simp
end Go.Proofs.YtpibehfmbmincaaGreatDoor
